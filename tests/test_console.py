"""The console: points 4, 7 to 9 and 15 and the interface's stage 11."""

import random
import unittest

from twospeeds.console import Console
from twospeeds.errors import (Incompatible, InvalidCommand, InvalidNumber, NoMark, NotReached, NoVariable, OutOfRange,
                              SyntaxProblem, TwoSpeedsError)
from twospeeds.session import Session
from twospeeds.texts import format_program, parse_program

COUNTER = "var x 0..2 = 0 | a x := x + 1 | b x := 0"
TWO = "var x 0..2 = 1 | var y -1..1 = 0 | a x := x + y | b y := 1 - x"
ALONE = ("show", "state", "done", "lasting", "shares", "mark", "history")
WITH_ARGUMENT = ("load", "run", "set", "replace", "ratio", "back", "at", "next", "regions", "verdicts")


def loaded(*lines):
    console = Console()
    for line in lines:
        console.execute(line)
    return console


def seen(console):
    """All that the answers show without a change."""
    lines = ["show", "state", "done", "lasting", "shares", "history", "next x = 2", "regions 5 : x = 2",
             "verdicts 4 : x = 2"]
    return [console.execute(line) for line in lines]


class Base(unittest.TestCase):
    def refuse(self, console, line, error=InvalidCommand, place=None):
        with self.subTest(line[:80]):
            with self.assertRaises(error) as caught:
                console.execute(line)
            self.assertIs(type(caught.exception), error)
            if place is not None:
                self.assertEqual((caught.exception.line, caught.exception.column), place)


class Answers(Base):
    def test_each_command(self):
        console = Console()
        for line, expected in [
                ("load " + TWO, "ok"), ("show", "var x 0..2 = 1 | var y -1..1 = 0 | a x := x + y | b y := 1 - x"),
                ("state", "x=1 y=0"), ("done", "0"), ("run 0", "x=1 y=0"), ("run 2", "x=1 y=0"), ("done", "2"),
                ("set y -1", "x=1 y=-1"), ("run 1", "x=0 y=-1"), ("at 0", "x=1 y=0"), ("at 2", "x=1 y=-1"),
                ("at 3", "x=0 y=-1"), ("mark", "0"), ("ratio 2 0 0 1", "x=0 y=-1"),
                ("history", "0: start, 2: set y -1, 3: ratio"), ("run 3", "x=0 y=1"), ("next x = 2", "8"),
                ("next x + y > 5", "never"), ("next x = 0", "6"), ("mark", "1"),
                # a a b, from x=0 y=1: two a's to x=2, y becomes -1, two a's to x=0, y becomes 1.
                ("lasting", "x=0 y=-1, x=0 y=1, x=1 y=-1, x=1 y=1, x=2 y=-1, x=2 y=1"),
                ("back 0", "x=0 y=-1"), ("done", "3"), ("history", "0: start, 2: set y -1"), ("mark", "1"),
                ("replace var x 0..2 = 2 | var y -1..1 = 1 | a x := x + 1", "x=0 y=-1"),
                ("history", "0: start, 2: set y -1, 3: program"), ("lasting", "x=2 y=-1"),
                ("shares", "x=2 y=-1: 1 0 0 1"),
                ("regions 3 : x = 1", "none to 1/3: never, 1/3 to 1/2: 3, 1/2 to 1/1: 2, 1/1 to none: 1"),
                ("verdicts 2 : x = 1", "none to 1/2: open, 1/2 to 1/1: 2, 1/1 to none: 1"),
                ("verdicts 0 : y = 1", "none to none: never"), ("verdicts 0 : y = -1", "none to none: 0"),
                ("regions 40 : y = 1", "none to none: never"), ("run 100", "x=2 y=-1"), ("done", "103")]:
            with self.subTest(line):
                self.assertEqual(console.execute(line), expected)

    def test_regions(self):
        console = loaded("load " + COUNTER)
        self.assertEqual(console.execute("regions 3 : x = 2"), "none to 2/1: never, 2/1 to none: 2")
        self.assertEqual(console.execute("verdicts 2 : x = 2"), "none to 1/1: never, 1/1 to 2/1: open, 2/1 to none: 2")
        self.assertEqual(console.execute("verdicts 3 : x = 2"),
                         "none to 1/1: never, 1/1 to 3/2: open, 3/2 to 2/1: 4, 2/1 to none: 2")

    def test_against_a_session(self):
        rng = random.Random(191)
        for program in (COUNTER, TWO):
            text = program.replace(" | ", "\n")
            console, session = loaded("load " + program), Session(text)
            names = [variable[0] for variable in session.program()[0]]

            def state(values):
                return " ".join(f"{name}={value}" for name, value in zip(names, values))

            def parts(rows):
                edge = lambda one: "none" if one is None else f"{one[0]}/{one[3]}"
                return ", ".join(f"{edge(low)} to {edge(high)}: {'never' if said is None else said}"
                                 for low, high, said in rows)

            for _ in range(120):
                count = rng.choice([0, 1, 2, 7, 10 ** 30])
                value = rng.randint(0, 2)
                ratio = rng.choice([(1, 1, 5, 2), (0, 1, 2, 2), (3, 0, 0, 2), (1, 0, 0, 1), (-1, 1, 5, 2)])
                expression = rng.choice(["x = 2", "x", "x = 0 or x = 1", "x > 1", "not x", "-x = -2"])
                depth = rng.randint(0, 8)
                line, expected = rng.choice([
                    (f"run {count}", lambda: state(session.run(count))),
                    (f"set x {value}", lambda: state(session.set_value("x", value))),
                    ("ratio {} {} {} {}".format(*ratio),
                     lambda: (session.change_ratio(ratio), state(session.state()))[1]),
                    (f"next {expression}", lambda: str(session.next_act(expression)).replace("None", "never")),
                    (f"at {session.acts_done() // 2}", lambda: state(session.state_after(session.acts_done() // 2))),
                    ("state", lambda: state(session.state())), ("done", lambda: str(session.acts_done())),
                    ("lasting", lambda: ", ".join(state(one) for one in session.lasting_states())),
                    ("shares", lambda: ", ".join(state(one) + ": " + " ".join(map(str, share))
                                                 for one, share in session.shares())),
                    (f"regions {depth + 1} : {expression}", lambda: parts(session.regions(expression, depth + 1))),
                    (f"verdicts {depth} : {expression}", lambda: parts(session.verdicts(expression, depth))),
                    ("mark", lambda: str(session.mark())),
                    ("history", lambda: ", ".join(f"{done}: {reason}" for done, reason in session.history()))])
                self.assertEqual(console.execute(line), expected())

    def test_show(self):
        for text in ("var x 0..1 = 0", "var x 0..1=0#no|\n\nvar y -1..1 = -1 # and |no\n b y:= - y\na x :=(x)",
                     "var a1 0..1 = 0\na a1 := if a1 then 0 else 1"):
            console = loaded("load " + text.replace("\n", " | "))
            self.assertEqual(console.execute("show"), format_program(parse_program(text)).replace("\n", " | "))

    def test_kind_of_answers(self):
        console = loaded("load " + TWO, "mark")
        for line in ALONE + ("run 3", "set x 1", "replace " + TWO, "ratio 1 0 0 1", "back 0", "at 0", "next x",
                             "regions 1 : x", "verdicts 0 : x", "load " + COUNTER):
            self.assertIs(type(console.execute(line)), str)


class Loading(Base):
    def test_no_program(self):
        console = Console()
        for line in ALONE + ("run 1", "set x 1", "replace " + COUNTER, "ratio 1 1 5 2", "back 0", "at 0", "next x",
                             "regions 1 : x", "verdicts 0 : x", "", "load", "unknown", "run x", "next",
                             "Load " + COUNTER):
            self.refuse(console, line)

    def test_a_load_that_fails(self):
        console = Console()
        self.refuse(console, "load ", SyntaxProblem, (2, 1))
        self.refuse(console, "load var x 0..1 = 2", SyntaxProblem, (1, 14))
        # Still no program.
        self.refuse(console, "state")
        self.refuse(console, "next x")
        self.assertEqual(console.execute("load " + COUNTER), "ok")
        console.execute("run 3")
        console.execute("set x 2")
        kept = seen(console)
        self.refuse(console, "load " + COUNTER + " | c", SyntaxProblem, (4, 1))
        self.refuse(console, "load", InvalidCommand)
        self.refuse(console, "load  ", SyntaxProblem, (2, 1))
        self.assertEqual(seen(console), kept)

    def test_a_new_session(self):
        console = loaded("load " + COUNTER, "run 3", "ratio 1 1 5 2", "mark")
        self.assertEqual(console.execute("load " + TWO), "ok")
        self.assertEqual([console.execute(line) for line in ("state", "done", "history")], ["x=1 y=0", "0", "0: start"])
        self.refuse(console, "back 0", NoMark)
        self.assertEqual(console.execute("mark"), "0")

    def test_newlines(self):
        console = Console()
        # Each " | " is a newline, in a comment too; "|" alone starts no token.
        program = "# a comment | var x 0..1 = 0 # one | a x := 1 # two|three |  | b x := 0 | "
        self.assertEqual(console.execute("load " + program), "ok")
        self.assertEqual(console.execute("show"), "var x 0..1 = 0 | a x := 1 | b x := 0")
        self.refuse(console, "load var x 0..1 = 0 | | a x := 1", SyntaxProblem, (2, 1))
        self.refuse(console, "load var x 0..1 = 0 # 0 | 1", SyntaxProblem, (2, 1))
        self.refuse(console, "load var x 0..1 = 0 |a x := 1", SyntaxProblem, (1, 16))
        self.refuse(console, "load var x 0..1 = 0| a x := 1", SyntaxProblem, (1, 15))
        self.refuse(console, "load var x 0..1 = 0 | a y := 1", SyntaxProblem, (2, 3))
        self.refuse(console, "load var x 0..1 = 0 |  | a x := ", SyntaxProblem, (3, 8))
        self.refuse(console, "load | var x 0..1 = 0", SyntaxProblem, (1, 1))
        self.refuse(console, "load  | x", SyntaxProblem, (2, 1))
        # A newline of its own is one, too.
        self.assertEqual(console.execute("load var x 0..1 = 0\na x := 1"), "ok")
        self.assertEqual(console.execute("show"), "var x 0..1 = 0 | a x := 1")
        self.assertEqual(console.execute("replace  var x 0..1 = 1 | "), "x=0")

    def test_consoles_are_apart(self):
        one, other = loaded("load " + COUNTER), Console()
        self.refuse(other, "state")
        other.execute("load " + TWO)
        one.execute("run 1")
        self.assertEqual([one.execute("state"), other.execute("state")], ["x=1", "x=1 y=0"])


class Form(Base):
    """Lines that are no commands."""

    def setUp(self):
        self.console = loaded("load " + TWO, "run 2", "set x 0", "mark", "run 1")
        self.kept = seen(self.console)

    def tearDown(self):
        self.assertEqual(seen(self.console), self.kept)

    def refused(self, *lines):
        for line in lines:
            self.refuse(self.console, line)

    def test_words(self):
        self.refused("", " ", "unknown", "Show", "STATE", "sta", "states", "state\n", "\tstate", "show\t", "next\tx",
                     "x", "run2", "run\n2", "history:", "loads " + COUNTER, "help", "quit", "marks", "ok")

    def test_an_argument_too_many(self):
        for word in ALONE:
            self.refused(word + " ", word + "  ", word + " x", word + " 0", " " + word)

    def test_an_argument_left_out(self):
        self.refused(*WITH_ARGUMENT)

    def test_spaces(self):
        self.refused("run  1", "run 1 ", " run 1", "at  0", "at 0 ", "back  0", "back 0 ", "set x  1", "set x 1 ",
                     "ratio 1  1 5 2", "ratio 1 1 5 2 ", "ratio  1 1 5 2", "regions  3 : x", "verdicts  3 : x",
                     "regions 3  : x", "verdicts 3  : x")

    def test_parts_left_out_or_put_in(self):
        self.refused("set", "set ", "set x", "set x ", "set 1", "set x 1 2", "set x y", "ratio 1", "ratio 1 1 5",
                     "ratio 1 1 5 2 1", "ratio ", "ratio 1,1,5,2", "run ", "run 1 2", "at ", "at 1 1", "back ",
                     "back 0 0", "regions ", "regions 3", "regions 3 x", "regions 3 :", "regions 3 :x", "regions 3: x",
                     "regions : x", "regions  : x", "regions x", "verdicts ", "verdicts 3", "verdicts 3 :",
                     "verdicts 3: x",
                     "verdicts  : x", "verdicts : x", "regions 3 3 : x", "regions x : 3")

    def test_numbers(self):
        wrong = ["-1", "-0", "+1", "01", "00", "007", "1.0", "1e3", "0x1", "1_000", "x", "", "-", "--1", "1-", "one",
                 "9" * 41, "1" + "0" * 40, "1" * 5000, "0" * 41, "1\n", "\n1", "1\t", "\u0663", "\u00b2"]
        for text in wrong:
            self.refused(f"run {text}", f"at {text}", f"back {text}", f"regions {text} : x", f"verdicts {text} : x")

    def test_integers(self):
        wrong = ["-0", "+1", "01", "-01", "-00", "00", "1.0", "x", "-", "--1", "- 1", "-x", "9" * 41, "-" + "9" * 41,
                 "-" + "1" * 5000, "1" * 5000, "1\n"]
        for text in wrong:
            self.refused(f"set x {text}", f"ratio {text} 1 5 2", f"ratio 1 {text} 5 2", f"ratio 1 1 {text} 2",
                         f"ratio 1 1 5 {text}")

    def test_limits(self):
        self.refused("regions 0 : x", "regions 41 : x", "verdicts 9 : x", "verdicts 10 : x", "regions 400 : x",
                     f"regions {'9' * 40} : x", f"verdicts {'9' * 40} : x", "ratio 1 1 10000000001 1",
                     f"ratio 1 1 {'9' * 40} 1", "ratio 1 0 10000000001 1")
        # The number comes before the expression.
        self.refused("regions 41 : z", "verdicts 9 : ", "regions 0 : x +")


class Limits(Base):
    def test_numbers(self):
        console = loaded("load " + COUNTER)
        self.assertEqual(console.execute("run 0"), "x=0")
        largest = "9" * 40
        session = Session(COUNTER.replace(" | ", "\n"))
        self.assertEqual(console.execute("run " + largest), f"x={session.run(int(largest))[0]}")
        self.assertEqual(console.execute("done"), largest)
        self.assertEqual(console.execute("at " + largest), console.execute("state"))
        self.assertEqual(console.execute("run 1"), "x=0")
        self.assertEqual(console.execute("done"), "1" + "0" * 40)
        self.refuse(console, "at 1" + "0" * 40, InvalidCommand)
        self.assertEqual(console.execute("next x = 0"), "1" + "0" * 40)

    def test_ratio(self):
        console = loaded("load " + COUNTER)
        largest = "9" * 40
        for line in ("ratio 1 0 0 1", f"ratio {largest} 0 0 1", f"ratio 1 0 0 {largest}",
                     f"ratio -{largest} {largest} 2 1", "ratio 1 1 9999999967 1", "ratio -1 1 5 2"):
            self.assertEqual(console.execute(line), "x=0")
        # Numbers in the form of integers, but none that are allowed.
        for line in ("ratio 0 0 0 1", "ratio -1 0 0 1", "ratio 1 0 0 0", "ratio 1 0 0 -1", "ratio 2 0 0 2",
                     "ratio 1 1 1 1", "ratio 1 1 4 1", "ratio 1 1 10000000000 1", "ratio 1 0 5 1", "ratio 1 1 0 1",
                     "ratio 1 1 -5 2", "ratio -2 1 2 1", f"ratio 1 1 -{largest} 1"):
            self.refuse(console, line, InvalidNumber)
        self.assertEqual(console.execute("history").count("ratio"), 6)

    def test_counts_and_depths(self):
        console = loaded("load " + COUNTER)
        for count in range(1, 41):
            self.assertTrue(console.execute(f"regions {count} : x = 2").startswith("none to "))
        for depth in range(9):
            self.assertTrue(console.execute(f"verdicts {depth} : x = 2").startswith("none to "))
        self.assertEqual(console.execute("regions 40 : x = 1").split(", ")[0], "none to 1/40: never")


class SessionErrors(Base):
    """What the session raises, behind which it stays as it was."""

    def test_each_kind(self):
        console = loaded("load " + TWO, "run 5", "mark", "ratio 1 1 5 2", "run 3")
        kept = seen(console)
        for line, error, place in [
                ("set z 1", NoVariable, None), ("set  1", NoVariable, None), ("set X 1", NoVariable, None),
                ("set z 99", NoVariable, None), ("set x 3", OutOfRange, None), ("set x -1", OutOfRange, None),
                ("set y " + "9" * 40, OutOfRange, None), ("set x -" + "9" * 40, OutOfRange, None),
                ("set x\n 1", NoVariable, None), ("at 9", NotReached, None), ("at " + "9" * 40, NotReached, None),
                ("back 1", NoMark, None), ("back " + "9" * 40, NoMark, None), ("ratio 0 0 0 1", InvalidNumber, None),
                ("replace var x 0..2 = 1", Incompatible, None), ("replace " + COUNTER, Incompatible, None),
                ("replace ", SyntaxProblem, (2, 1)), ("replace  ", SyntaxProblem, (2, 1)),
                ("replace " + TWO + " | a y :=", SyntaxProblem, (5, 7)), ("next ", SyntaxProblem, (1, 1)),
                ("next  ", SyntaxProblem, (1, 2)), ("next z", SyntaxProblem, (1, 1)), ("next x ", None, None),
                ("next x +", SyntaxProblem, (1, 4)), ("next  z", SyntaxProblem, (1, 2)),
                ("next x | y", SyntaxProblem, (1, 3)), ("next x # y", SyntaxProblem, (1, 3)),
                ("regions 3 : ", SyntaxProblem, (1, 1)), ("regions 3 : z", SyntaxProblem, (1, 1)),
                ("regions 3 :  z", SyntaxProblem, (1, 2)), ("regions 3 : x : y", SyntaxProblem, (1, 3)),
                ("regions 3 : x : y : x", SyntaxProblem, (1, 3)), ("regions 3 :  : x", SyntaxProblem, (1, 2)),
                ("regions 3 : : x", SyntaxProblem, (1, 1)), ("verdicts 3 : ", SyntaxProblem, (1, 1)),
                ("verdicts 3 : x = = 2", SyntaxProblem, (1, 5)), ("verdicts 3 : x : y", SyntaxProblem, (1, 3)),
                ("verdicts 0 : :", SyntaxProblem, (1, 1)), ("verdicts 8 : x := 2", SyntaxProblem, (1, 3)),
                ("next x\n", SyntaxProblem, (1, 2)), ("next x\t", SyntaxProblem, (1, 2))]:
            if error is None:
                console.execute(line)
                continue
            self.refuse(console, line, error, place)
            self.assertTrue(issubclass(error, TwoSpeedsError))
        self.assertEqual(seen(console), kept)

    def test_names_of_any_form(self):
        console = loaded("load " + TWO)
        for name in ("", "\n", "x=", "1", "-", ":", "|", "varx", "X", "\t", "a" * 5000):
            self.refuse(console, f"set {name} 1", NoVariable)
        self.assertEqual(console.execute("history"), "0: start")


if __name__ == "__main__":
    unittest.main()

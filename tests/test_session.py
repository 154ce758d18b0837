"""Sessions: points 2, 4, 7 and 10 to 15 and the interface's stage 10."""

import copy
import random
import unittest

from anything import OBJECTS
from twospeeds.errors import (Incompatible, InvalidNumber, NoMark, NotReached, NoVariable, OutOfRange, SyntaxProblem,
                              TwoSpeedsError)
from twospeeds.machine import acted, all_states, index_of, maps_of, start_state, states_where
from twospeeds.numbers import is_number, sign
from twospeeds.patterns import lasting, next_act
from twospeeds.regions import regions, verdicts
from twospeeds.runs import state_after
from twospeeds.session import Session
from twospeeds.shares import shares
from twospeeds.texts import parse_program
from walks import GOLDEN, LARGE_FRACTIONS, LARGE_ROOTS, LATE, ONE, merged

COUNTER = "var x 0..2 = 0\na x := x + 1\nb x := 0"
TWO = "var x 0..2 = 1\nvar y -1..1 = 0\na x := x + y\nb y := 1 - x"
TEXTS = [TWO, "var x 0..2 = 0\nvar y -1..1 = 1\nb x := x + 1\na y := -y",
         "var x 0..2 = 2\nvar y -1..1 = -1\na x := y + 1\na y := x - 1\nb x := 2 - x",
         "# The same variables.\nvar x 0..2 = 2\n\nvar y -1..1 = -1"]
RATIOS = [ONE, GOLDEN, (0, 1, 2, 2), (2, 0, 0, 3), (5, 0, 0, 1), (-1, 1, 5, 2), (1, 0, 0, 3)]


class Model:
    """A session by the interface's words: each state of the history, one by one."""

    def __init__(self, text):
        self.segments = [[0, "start", parse_program(text), ONE, start_state(parse_program(text))]]
        self.done = 0
        self.marks = []

    def states(self):
        """The states behind 0, 1, .. all acts of the history."""
        found = {}
        ends = [segment[0] for segment in self.segments[1:]] + [self.done]
        for (begin, _, form, ratio, state), end in zip(self.segments, ends):
            found[begin] = state
            for at, worker in enumerate(merged(ratio, end - begin)):
                state = acted(form, worker, state)
                found[begin + at + 1] = state
            # The next segment's first state takes the place of the last one.
        return found

    def state(self):
        return self.states()[self.done]

    def begin(self, reason, form, ratio, state):
        if self.segments[-1][0] == self.done:
            reason = self.segments.pop()[1] + "; " + reason
        self.segments.append([self.done, reason, form, ratio, state])

    def ranges(self):
        return [variable[:3] for variable in self.segments[-1][2][0]]


def seen(session):
    """All that a session shows without being changed."""
    return (session.program(), session.ratio(), session.acts_done(), session.state(), session.history(),
            session.lasting_states(), session.shares(),
            [session.state_after(count) for count in range(min(session.acts_done(), 60) + 1)])


class Begin(unittest.TestCase):
    def test_a_new_session(self):
        session = Session(TWO)
        self.assertEqual(session.program(), parse_program(TWO))
        self.assertEqual(session.ratio(), (1, 0, 0, 1))
        self.assertEqual(session.acts_done(), 0)
        self.assertEqual(session.state(), (1, 0))
        self.assertEqual(session.state_after(0), (1, 0))
        self.assertEqual(session.history(), [(0, "start")])

    def test_wrong_texts(self):
        for text, place in [("", (2, 1)), ("var x 0..1 = 2", (1, 14)), (COUNTER + "\nc x := 1", (4, 1)),
                            (COUNTER + "\na x := 1", (4, 3)), ("var x 0..12 = 0", (1, 10))]:
            with self.assertRaises(SyntaxProblem) as caught:
                Session(text)
            self.assertEqual((caught.exception.line, caught.exception.column), place)

    def test_sessions_are_apart(self):
        one, other = Session(COUNTER), Session(COUNTER)
        one.run(5)
        one.set_value("x", 2)
        one.mark()
        self.assertEqual(seen(other), seen(Session(COUNTER)))
        self.assertEqual(other.mark(), 0)


class Run(unittest.TestCase):
    def test_few_acts(self):
        session = Session(COUNTER)
        self.assertEqual([session.run(count) for count in (0, 1, 1, 1, 0, 2, 3)],
                         [(0,), (1,), (0,), (1,), (1,), (1,), (0,)])
        self.assertEqual(session.acts_done(), 8)
        self.assertEqual(session.history(), [(0, "start")])

    def test_many_acts(self):
        for ratio in RATIOS + LARGE_ROOTS + LARGE_FRACTIONS + [LATE]:
            session = Session(TWO)
            session.change_ratio(ratio)
            maps = maps_of(parse_program(TWO))
            done = 0
            for count in (10 ** 38, 10 ** 38, 1, 0, 10 ** 20, 7):
                done += count
                index = state_after(ratio, maps, index_of(parse_program(TWO), (1, 0)), done)
                self.assertEqual(session.run(count), all_states(parse_program(TWO))[index])
                self.assertEqual(session.acts_done(), done)

    def test_state_after(self):
        session = Session(COUNTER)
        session.run(3)
        session.set_value("x", 2)
        session.run(2)
        session.change_ratio((2, 0, 0, 1))
        session.run(4)
        # a b a, then x is 2 and a b, then a a b a.
        self.assertEqual([session.state_after(count)[0] for count in range(10)], [0, 1, 0, 2, 2, 0, 1, 2, 0, 1])
        self.assertEqual(session.history(), [(0, "start"), (3, "set x 2"), (5, "ratio")])
        for count in (10, 11, 10 ** 40):
            with self.assertRaises(NotReached):
                session.state_after(count)
        self.assertEqual(session.state(), (1,))

    def test_state_after_far_away(self):
        session = Session(COUNTER)
        session.run(10 ** 38)
        session.change_ratio(GOLDEN)
        session.run(10 ** 38)
        session.set_value("x", 0)
        maps = maps_of(parse_program(COUNTER))
        for count in (0, 1, 10 ** 38 - 1, 10 ** 38, 10 ** 38 + 1, 2 * 10 ** 38 - 1):
            if count < 10 ** 38:
                expected = state_after(ONE, maps, 0, count)
            else:
                expected = state_after(GOLDEN, maps, state_after(ONE, maps, 0, 10 ** 38), count - 10 ** 38)
            self.assertEqual(session.state_after(count), (expected,))
        self.assertEqual(session.state_after(2 * 10 ** 38), (0,))
        with self.assertRaises(NotReached):
            session.state_after(2 * 10 ** 38 + 1)


class Changes(unittest.TestCase):
    def test_set_value(self):
        session = Session(TWO)
        self.assertEqual(session.set_value("y", -1), (1, -1))
        self.assertEqual(session.set_value("x", 2), (2, -1))
        self.assertEqual(session.state(), (2, -1))
        self.assertEqual(session.history(), [(0, "start; set y -1; set x 2")])
        self.assertEqual(session.run(1), (1, -1))
        self.assertEqual(session.set_value("x", 1), (1, -1))
        self.assertEqual(session.history(), [(0, "start; set y -1; set x 2"), (1, "set x 1")])
        # The acts begin anew: an a again.
        self.assertEqual(session.run(1), (0, -1))

    def test_no_variable(self):
        session = Session(TWO)
        session.run(4)
        kept = seen(session)
        for name in ("z", "", "X", "xy", "x ", "var", "x\n"):
            for value in (0, 99, None, [], "x"):
                with self.assertRaises(NoVariable):
                    session.set_value(name, value)
        self.assertEqual(seen(session), kept)

    def test_out_of_range(self):
        session = Session(TWO)
        session.run(4)
        kept = seen(session)
        for name, values in (("x", (0, 1, 2)), ("y", (-1, 0, 1))):
            for value in OBJECTS + [3, -2, -10 ** 50]:
                if type(value) is int and value in values:
                    continue
                with self.assertRaises(OutOfRange):
                    session.set_value(name, value)
        self.assertEqual(seen(session), kept)

    def test_replace_program(self):
        session = Session(TWO)
        session.run(3)
        state = session.state()
        for text in TEXTS:
            session.replace_program(text)
            # From the present state, not from its start values.
            self.assertEqual(session.state(), state)
            self.assertEqual(session.program(), parse_program(text))
        self.assertEqual(session.history(), [(0, "start"), (3, "program; program; program; program")])
        self.assertEqual(session.run(10 ** 20), state)

    def test_replace_program_refused(self):
        session = Session(TWO)
        session.run(3)
        kept = seen(session)
        for text, place in [("", (2, 1)), ("var x 0..2 = 1\nvar y -1..1 = 2", (2, 15)), ("a x := 1", (1, 1)),
                            # Wrong in both ways.
                            ("var z 0..1 = 0\na z :=", (2, 7))]:
            with self.assertRaises(SyntaxProblem) as caught:
                session.replace_program(text)
            self.assertEqual((caught.exception.line, caught.exception.column), place)
        for text in ("var x 0..2 = 1", "var y -1..1 = 0\nvar x 0..2 = 1", "var x 0..2 = 1\nvar z -1..1 = 0",
                     "var x 0..1 = 1\nvar y -1..1 = 0", "var x 0..2 = 1\nvar y -1..0 = 0",
                     "var x 0..2 = 1\nvar y 0..1 = 0", TWO.replace("a x", "var z 0..0 = 0\na x"),
                     "var x 0..2 = 1\nvar y 0..2 = 0"):
            with self.assertRaises(Incompatible):
                session.replace_program(text)
        self.assertEqual(seen(session), kept)

    def test_change_ratio(self):
        for ratio in RATIOS + LARGE_ROOTS + LARGE_FRACTIONS + [LATE]:
            session = Session(COUNTER)
            session.run(2)
            session.change_ratio(ratio)
            self.assertEqual(session.ratio(), ratio)
            self.assertEqual(session.history(), [(0, "start"), (2, "ratio")])
            word = merged(ratio, 5)
            state = session.state()
            for worker in word:
                state = acted(session.program(), worker, state)
                self.assertEqual(session.run(1), state)

    def test_change_ratio_refused(self):
        session = Session(COUNTER)
        session.run(3)
        session.change_ratio(GOLDEN)
        session.run(2)
        kept = seen(session)
        refused = 0
        for thing in OBJECTS:
            if is_number(thing) and sign(thing) == 1:
                continue
            copied = copy.deepcopy(thing)
            with self.assertRaises(InvalidNumber):
                session.change_ratio(thing)
            self.assertEqual(thing, copied)
            refused += 1
        self.assertGreater(refused, 40)
        self.assertEqual(seen(session), kept)

    def test_reasons_are_put_together(self):
        session = Session(COUNTER)
        session.change_ratio(GOLDEN)
        session.set_value("x", 2)
        session.replace_program(COUNTER)
        self.assertEqual(session.history(), [(0, "start; ratio; set x 2; program")])
        session.run(0)
        session.change_ratio(ONE)
        self.assertEqual(session.history(), [(0, "start; ratio; set x 2; program; ratio")])
        session.run(1)
        session.set_value("x", 0)
        session.change_ratio(ONE)
        self.assertEqual(session.history(), [(0, "start; ratio; set x 2; program; ratio"), (1, "set x 0; ratio")])

    def test_the_same_value_or_ratio_is_a_change_too(self):
        session = Session(COUNTER)
        session.run(1)
        session.change_ratio(ONE)
        # a again, and not b.
        self.assertEqual(session.run(1), (2,))
        session.set_value("x", 2)
        self.assertEqual(session.history(), [(0, "start"), (1, "ratio"), (2, "set x 2")])


class Ahead(unittest.TestCase):
    """next_act, lasting_states, shares, regions and verdicts."""

    def test_against_the_functions(self):
        rng = random.Random(181)
        for _ in range(60):
            session = Session(rng.choice(TEXTS))
            begin = 0
            for _ in range(rng.randint(0, 2)):
                begin += (count := rng.choice([0, 1, 5, 10 ** 30]))
                session.run(count)
                session.change_ratio(rng.choice(RATIOS))
            program, ratio = session.program(), session.ratio()
            maps, first = maps_of(program), index_of(program, session.state())
            done = rng.choice([0, 1, 2, 17, 10 ** 35])
            session.run(done)
            states = all_states(program)
            self.assertEqual(session.lasting_states(), [states[index] for index in lasting(ratio, maps, first)])
            found = shares(ratio, maps, first)
            self.assertEqual(session.shares(), [(state, share) for state, share in zip(states, found)
                                                if share != (0, 0, 0, 1)])
            now = index_of(program, session.state())
            for text in ("x = 2", "x = y", "y", "x < 0", "1", "x = 0 and y = 1"):
                targets = states_where(program, text)
                act = next_act(ratio, maps, first, done, targets)
                self.assertEqual(session.next_act(text), None if act is None else begin + act)
                self.assertEqual(session.regions(text, 7), regions(maps, now, targets, 7))
                self.assertEqual(session.verdicts(text, 4), verdicts(maps, now, targets, 4))

    def test_next_act_by_running(self):
        rng = random.Random(182)
        for _ in range(40):
            session = Session(rng.choice(TEXTS))
            session.run(rng.randint(0, 9))
            session.change_ratio(rng.choice(RATIOS))
            session.run(rng.randint(0, 9))
            for text in ("x = 2", "x = y", "y < 0", "x = 0 and y = 1"):
                found = session.next_act(text)
                number = session.mark()
                done = session.acts_done()
                expected = None
                for act in range(done, done + 200):
                    if index_of(session.program(), session.state()) in states_where(session.program(), text):
                        expected = act
                        break
                    session.run(1)
                session.back(number)
                self.assertEqual(found, expected)

    def test_the_present_state_counts(self):
        session = Session(COUNTER)
        session.run(3)
        self.assertEqual(session.next_act("x = 1"), 3)
        self.assertEqual(session.next_act("x = 0"), 4)
        self.assertEqual(session.next_act("1"), 3)
        self.assertIsNone(session.next_act("x = 2"))
        self.assertIsNone(session.next_act("0"))
        session.run(10 ** 38)
        self.assertEqual(session.next_act("x = 1"), 10 ** 38 + 3)

    def test_regions_and_verdicts_begin_anew(self):
        session = Session(COUNTER)
        session.run(1)
        # x is 1, and the next act would be b; but anew it is an a from 1 on.
        self.assertEqual(session.regions("x = 2", 1), ((None, ONE, None), (ONE, None, 1)))
        self.assertEqual(session.verdicts("x = 2", 1), ((None, ONE, "never"), (ONE, None, 1)))
        self.assertEqual(session.next_act("x = 2"), None)

    def test_the_beginning_does_not_count(self):
        session = Session("var x 0..3 = 0\na x := if x < 2 then x + 1 else 5 - x\nb x := x")
        session.change_ratio(GOLDEN)
        self.assertEqual(session.lasting_states(), [(2,), (3,)])
        self.assertEqual(session.shares(), [((2,), (1, 0, 0, 2)), ((3,), (1, 0, 0, 2))])

    def test_shares_since_the_last_change(self):
        session = Session(COUNTER)
        session.run(100)
        self.assertEqual(session.shares(), [((0,), (1, 0, 0, 2)), ((1,), (1, 0, 0, 2))])
        session.change_ratio(GOLDEN)
        self.assertEqual(session.shares(), [((0,), (3, -1, 5, 2)), ((1,), (3, -1, 5, 2)), ((2,), (-2, 1, 5, 1))])

    def test_problems(self):
        session = Session(TWO)
        session.run(3)
        kept = seen(session)
        for text, column in [("", 1), ("z", 1), ("x +", 4), ("x # y", 3), ("x\n", 2), ("x := 1", 3)]:
            for call in (lambda: session.next_act(text), lambda: session.regions(text, 5),
                         lambda: session.verdicts(text, 5)):
                with self.assertRaises(SyntaxProblem) as caught:
                    call()
                self.assertEqual((caught.exception.line, caught.exception.column), (1, column))
        self.assertEqual(seen(session), kept)

    def test_limits(self):
        session = Session(TWO)
        for count in (1, 40):
            self.assertEqual(session.regions("0", count), ((None, None, None),))
        for depth in (0, 8):
            self.assertEqual(session.verdicts("0", depth), ((None, None, "never"),))


class Marks(unittest.TestCase):
    def test_numbers(self):
        session = Session(COUNTER)
        self.assertEqual([session.mark() for _ in range(4)], [0, 1, 2, 3])
        session.back(1)
        self.assertEqual(session.mark(), 2)
        session.back(0)
        self.assertEqual([session.mark(), session.mark()], [1, 2])

    def test_back(self):
        session = Session(TWO)
        kept = []
        for turn in range(5):
            session.run(turn)
            session.set_value("x", turn % 3)
            session.change_ratio(RATIOS[turn])
            session.run(2)
            self.assertEqual(session.mark(), turn)
            kept.append(seen(session))
        session.run(10 ** 30)
        for number in (4, 4, 2, 1, 1, 0):
            session.back(number)
            self.assertEqual(seen(session), kept[number])
            # Later marks are gone, this one and the earlier ones are not.
            for later in range(number + 1, 6):
                with self.assertRaises(NoMark):
                    session.back(later)
            self.assertEqual(seen(session), kept[number])
            session.set_value("y", 1)
            session.run(3)
            session.replace_program(TEXTS[1])
            session.run(1)

    def test_forward_is_not_possible(self):
        session = Session(COUNTER)
        session.run(2)
        session.mark()
        session.run(5)
        session.mark()
        session.back(0)
        self.assertEqual((session.acts_done(), session.state()), (2, (0,)))
        with self.assertRaises(NotReached):
            session.state_after(3)
        with self.assertRaises(NoMark):
            session.back(1)

    def test_changes_behind_a_mark_do_not_reach_it(self):
        session = Session(COUNTER)
        session.run(3)
        session.set_value("x", 2)
        session.mark()
        # The segment begins at the same number of acts and takes the place of the other one.
        session.change_ratio(GOLDEN)
        self.assertEqual(session.history(), [(0, "start"), (3, "set x 2; ratio")])
        session.back(0)
        self.assertEqual(session.history(), [(0, "start"), (3, "set x 2")])
        self.assertEqual(session.ratio(), ONE)

    def test_no_mark(self):
        session = Session(COUNTER)
        kept = seen(session)
        for thing in OBJECTS:
            with self.assertRaises(NoMark):
                session.back(thing)
        session.mark()
        session.mark()
        session.run(4)
        kept = seen(session)
        for thing in OBJECTS + [3, -2]:
            if type(thing) is int and thing in (0, 1):
                continue
            with self.assertRaises(NoMark):
                session.back(thing)
        self.assertEqual(seen(session), kept)
        session.back(1)
        session.back(0)
        self.assertEqual(session.acts_done(), 0)


class Lists(unittest.TestCase):
    def test_new_each_time(self):
        session = Session(TWO)
        session.run(5)
        session.set_value("x", 1)
        session.change_ratio(GOLDEN)
        kept = copy.deepcopy(seen(session))
        for method in (session.history, session.shares, session.lasting_states):
            found = method()
            self.assertIs(type(found), list)
            self.assertIsNot(method(), found)
            found.clear()
            found.append("other")
        self.assertEqual(seen(session), kept)

    def test_kinds_of_values(self):
        session = Session(TWO)
        session.run(5)
        self.assertTrue(all(type(pair) is tuple for pair in session.history() + session.shares()))
        self.assertTrue(all(type(state) is tuple for state in session.lasting_states() + [session.state()]))
        self.assertEqual((type(session.regions("x", 3)), type(session.verdicts("x", 3))), (tuple, tuple))
        self.assertIs(type(session.mark()), int)


class Random(unittest.TestCase):
    """Random sessions held against one that keeps all states."""

    def step(self, rng, session, model):
        kind = rng.randrange(10)
        last = model.segments[-1]
        if kind <= 3:
            count = rng.choice([0, 1, 2, 5, 11])
            model.done += count
            self.assertEqual(session.run(count), model.state())
        elif kind == 4:
            at = rng.randrange(2)
            name, low, high = model.ranges()[at]
            value = rng.randint(low, high)
            state = list(model.state())
            state[at] = value
            model.begin(f"set {name} {value}", last[2], last[3], tuple(state))
            self.assertEqual(session.set_value(name, value), tuple(state))
        elif kind == 5:
            text = rng.choice(TEXTS)
            model.begin("program", parse_program(text), last[3], model.state())
            session.replace_program(text)
        elif kind == 6:
            ratio = rng.choice(RATIOS)
            model.begin("ratio", last[2], ratio, model.state())
            session.change_ratio(ratio)
        elif kind == 7:
            self.assertEqual(session.mark(), len(model.marks))
            model.marks.append(copy.deepcopy((model.segments, model.done)))
        elif kind == 8 and model.marks:
            number = rng.randrange(len(model.marks))
            session.back(number)
            model.segments, model.done = copy.deepcopy(model.marks[number])
            del model.marks[number + 1:]
        else:
            self.refused(rng, session, len(model.marks))

    def refused(self, rng, session, marks):
        call, wrong = rng.choice([
            (session.set_value, ("z", 0)), (session.set_value, ("x", 3)), (session.set_value, ("y", True)),
            (session.replace_program, (COUNTER,)), (session.replace_program, ("x",)),
            (session.change_ratio, (ONE[:3],)),
            (session.back, (marks,)), (session.state_after, (10 ** 9,)), (session.next_act, ("x +",)),
            (session.regions, ("", 3)), (session.verdicts, ("z", 3))])
        with self.assertRaises(TwoSpeedsError):
            call(*wrong)

    def test_steps(self):
        rng = random.Random(183)
        for _ in range(80):
            text = rng.choice(TEXTS)
            session, model = Session(text), Model(text)
            for _ in range(25):
                self.step(rng, session, model)
                states = model.states()
                self.assertEqual(session.acts_done(), model.done)
                self.assertEqual([session.state_after(count) for count in range(model.done + 1)],
                                 [states[count] for count in range(model.done + 1)])
                self.assertEqual(session.state(), states[model.done])
                self.assertEqual(session.history(), [(segment[0], segment[1]) for segment in model.segments])
                self.assertEqual((session.program(), session.ratio()), tuple(model.segments[-1][2:4]))


if __name__ == "__main__":
    unittest.main()

"""The examples of the document, as they stand there, and the names of its interface."""

import importlib
import inspect
import unittest

INTERFACE = {
    "errors": {
        "TwoSpeedsError": None, "SyntaxProblem": ["line", "column"], "TooMany": ["limit"],
        "InvalidNumber": None, "ZeroDivisor": None, "OtherRoot": None, "NoVariable": None,
        "OutOfRange": None, "Incompatible": None, "NotReached": None, "NoMark": None,
        "InvalidCommand": None,
    },
    "numbers": {
        "number": ["p", "q", "d", "s"], "is_number": ["thing"], "sign": ["one"], "floor": ["one"],
        "compare": ["first", "second"], "plus": ["first", "second"], "minus": ["first", "second"],
        "times": ["first", "second"], "over": ["first", "second"], "opposite": ["one"],
    },
    "quotients": {
        "expansion": ["ratio"], "quotients": ["ratio", "count"], "quotient_at": ["parts", "place"],
        "number_of": ["parts"], "convergents": ["ratio", "count"],
    },
    "order": {
        "counts": ["ratio", "count"], "act_at": ["ratio", "place"], "acts": ["ratio", "count"],
        "place_of": ["ratio", "worker", "index"], "lengths": ["ratio", "count"],
        "standard": ["ratio", "level"], "digits": ["ratio", "count"],
    },
    "expressions": {
        "parse_expression": ["text", "variables"], "evaluate": ["expression", "values"],
        "format_expression": ["expression"],
    },
    "texts": {"parse_program": ["text"], "format_program": ["program"]},
    "machine": {
        "all_states": ["program"], "start_state": ["program"], "acted": ["program", "worker", "state"],
        "maps_of": ["program"], "index_of": ["program", "state"], "states_where": ["program", "text"],
    },
    "runs": {"state_after": ["ratio", "maps", "start", "count"], "path": ["ratio", "maps", "start", "count"]},
    "patterns": {
        "stable_level": ["ratio", "maps"], "closed_sets": ["ratio", "maps", "start", "level"],
        "visits": ["ratio", "maps", "level", "state"], "occurring": ["ratio", "maps", "start"],
        "lasting": ["ratio", "maps", "start"], "next_act": ["ratio", "maps", "start", "passed", "targets"],
        "never": ["ratio", "maps", "start", "targets"],
        "shows_never": ["ratio", "maps", "start", "targets", "certificate"],
    },
    "shares": {"shares": ["ratio", "maps", "start"]},
    "regions": {
        "borders": ["count"], "regions": ["maps", "start", "targets", "count"], "region_of": ["ratio", "parts"],
        "cell_of": ["ratio", "depth"], "verdicts": ["maps", "start", "targets", "depth"],
    },
    "compare": {
        "first_difference": ["ratio", "one", "other", "text"], "same_for_ever": ["ratio", "one", "other", "text"],
        "state_classes": ["ratio", "program", "text"],
    },
    "session": {"Session": ["text"]},
    "console": {"Console": []},
}

METHODS = {
    ("session", "Session"): {
        "program": [], "ratio": [], "acts_done": [], "state": [], "run": ["count"], "state_after": ["count"],
        "set_value": ["name", "value"], "replace_program": ["text"], "change_ratio": ["ratio"], "next_act": ["text"],
        "lasting_states": [], "shares": [], "regions": ["text", "count"], "verdicts": ["text", "depth"],
        "history": [], "mark": [], "back": ["number"],
    },
    ("console", "Console"): {"execute": ["line"]},
}


class Examples(unittest.TestCase):
    def test_numbers(self):
        from twospeeds.numbers import number, is_number
        self.assertEqual(
            [number(2, 4, 12, -6), number(3, 1, 4, 2), is_number((1, 1, 5, 2)), is_number((2, 2, 5, 2))],
            [(-1, -4, 3, 3), (5, 0, 0, 2), True, False])

    def test_arithmetic(self):
        from twospeeds.numbers import compare, floor, over, plus
        golden = (1, 1, 5, 2)
        self.assertEqual(
            [plus(golden, (1, 0, 0, 1)), over((1, 0, 0, 1), golden), compare(golden, (0, 1, 3, 1)),
             floor((0, -1, 2, 1))],
            [(3, 1, 5, 2), (-1, 1, 5, 2), -1, -2])

    def test_expansion(self):
        from twospeeds.quotients import expansion, number_of
        self.assertEqual(
            [expansion((0, 1, 2, 1)), expansion((7, 0, 0, 5)), number_of(((1,), (2,)))],
            [((1,), (2,)), ((1, 2, 2), ()), (0, 1, 2, 1)])

    def test_convergents(self):
        from twospeeds.quotients import convergents, quotients
        self.assertEqual(
            [convergents((1, 1, 5, 2), 4), quotients((7, 0, 0, 5), 9)],
            [[(1, 1), (2, 1), (3, 2), (5, 3)], [1, 2, 2]])

    def test_acts(self):
        from twospeeds.order import acts, counts, place_of
        golden = (1, 1, 5, 2)
        self.assertEqual(
            [acts(golden, 8), counts(golden, 8), place_of(golden, "b", 3), acts((1, 0, 0, 2), 6)],
            ['abaababa', (5, 3), 7, 'babbab'])

    def test_standard_words(self):
        from twospeeds.order import digits, lengths, standard
        golden = (1, 1, 5, 2)
        self.assertEqual(
            [lengths(golden, 5), standard(golden, 3), digits(golden, 7)],
            [[1, 2, 3, 5, 8, 13], 'abaab', (0, 1, 0, 1)])

    def test_parse_program(self):
        from twospeeds.texts import parse_program
        self.assertEqual(
            parse_program("var x 0..1 = 0\na x := 1 - x"),
            ((('x', 0, 1, 0),), (('x', ('-', ('int', 1), ('name', 'x'))),), ()))

    def test_format_program(self):
        from twospeeds.texts import format_program, parse_program
        self.assertEqual(
            format_program(parse_program("var x -1..1 = 0 # sign\nb x:=if (x=1) then -x else (x+1)\na x := 0")),
            'var x -1..1 = 0\na x := 0\nb x := if x = 1 then -x else x + 1')

    def test_start_out_of_the_range(self):
        from twospeeds.errors import SyntaxProblem
        from twospeeds.texts import parse_program
        with self.assertRaises(SyntaxProblem) as caught:
            parse_program("var x 0..1 = 2")
        self.assertEqual((caught.exception.line, caught.exception.column), (1, 14))

    def test_expression(self):
        from twospeeds.expressions import evaluate, format_expression, parse_expression
        found = parse_expression("(if x > 1 then 2 else x) * -3", (("x",),))
        self.assertEqual(
            [format_expression(found), evaluate(found, {"x": 5}), evaluate(found, {"x": 1})],
            ['(if x > 1 then 2 else x) * -3', -6, -3])

    def test_runs(self):
        from twospeeds.machine import maps_of
        from twospeeds.runs import path, state_after
        from twospeeds.texts import parse_program
        maps = maps_of(parse_program("var x 0..1 = 0\na x := 1 - x"))
        self.assertEqual(
            [maps, path((1, 1, 5, 2), maps, 0, 8), state_after((1, 1, 5, 2), maps, 0, 8)],
            [((1, 0), (0, 1)), [0, 1, 1, 0, 1, 1, 0, 0, 1], 1])

    def test_machine(self):
        from twospeeds.machine import acted, states_where
        from twospeeds.texts import parse_program
        program = parse_program("var x 0..2 = 0\nvar y 0..1 = 1\na x := x + y\na y := x mod 2")
        self.assertEqual(
            [acted(program, "a", (2, 1)), acted(program, "b", (2, 1)), states_where(program, "x = y")],
            [(2, 0), (2, 1), [0, 3]])

    def test_next_act(self):
        from twospeeds.patterns import lasting, never, next_act
        golden = (1, 1, 5, 2)
        maps = ((1, 0, 2), (0, 0, 2))
        self.assertEqual(
            [next_act(golden, maps, 0, 0, [1]), next_act(golden, maps, 0, 4, [1]), lasting(golden, maps, 0),
             next_act(golden, maps, 0, 0, [2]), never(golden, maps, 0, [1])],
            [1, 6, [0, 1], None, None])

    def test_never(self):
        from twospeeds.patterns import closed_sets, never, stable_level
        golden = (1, 1, 5, 2)
        maps = ((1, 0, 2), (0, 1, 2))
        self.assertEqual(
            [stable_level(golden, maps), closed_sets(golden, maps, 0, 1), never(golden, maps, 0, [2])],
            [1, ((0, 1), (0, 1)), (1, (0, 1), (0, 1))])

    def test_shows_never(self):
        from twospeeds.patterns import shows_never
        maps = ((1, 0, 2), (0, 1, 2))
        self.assertEqual(
            [shows_never((1, 1, 5, 2), maps, 0, [2], (1, (0, 1), (0, 1))),
             shows_never((1, 1, 5, 2), maps, 0, [2], (1, (1,), (0,))),
             shows_never((1, 0, 0, 1), maps, 0, [2], (0, (0, 1), ()))],
            [True, False, True])

    def test_shares(self):
        from twospeeds.shares import shares
        golden = (1, 1, 5, 2)
        self.assertEqual(
            [shares(golden, ((1, 0), (0, 0)), 0), shares(golden, ((1, 0), (0, 1)), 0)],
            [((-1, 1, 5, 2), (3, -1, 5, 2)), ((1, 0, 0, 2), (1, 0, 0, 2))])

    def test_regions(self):
        from twospeeds.machine import maps_of, states_where
        from twospeeds.regions import borders, region_of, regions
        from twospeeds.texts import parse_program
        program = parse_program("var x 0..2 = 0\na x := x + 1\nb x := 0")
        parts = regions(maps_of(program), 0, states_where(program, "x = 2"), 3)
        self.assertEqual(
            [borders(3), parts, region_of((1, 1, 5, 2), parts)],
            [[(1, 0, 0, 3), (1, 0, 0, 2), (1, 0, 0, 1), (2, 0, 0, 1), (3, 0, 0, 1)],
             ((None, (2, 0, 0, 1), None), ((2, 0, 0, 1), None, 2)), (None, (2, 0, 0, 1), None)])

    def test_verdicts(self):
        from twospeeds.machine import maps_of, states_where
        from twospeeds.regions import cell_of, verdicts
        from twospeeds.texts import parse_program
        program = parse_program("var x 0..2 = 0\na x := x + 1\nb x := 0")
        parts = verdicts(maps_of(program), 0, states_where(program, "x = 2"), 2)
        self.assertEqual(
            [parts, cell_of((1, 1, 5, 2), 2)],
            [((None, (1, 0, 0, 1), 'never'), ((1, 0, 0, 1), (2, 0, 0, 1), 'open'), ((2, 0, 0, 1), None, 2)),
             ((1, 0, 0, 1), (2, 0, 0, 1), 'aba', 'ab')])

    def test_first_difference(self):
        from twospeeds.compare import first_difference, state_classes
        from twospeeds.texts import parse_program
        one = parse_program("var x 0..2 = 0\na x := x + 1\nb x := 0")
        other = parse_program("var x 0..1 = 0\na x := x + 1\nb x := 0")
        self.assertEqual(
            [first_difference((1, 1, 5, 2), one, other, "x"), first_difference((1, 0, 0, 2), one, other, "x")],
            [4, None])
        program = parse_program("var x 0..1 = 0\nvar y 0..1 = 0\na x := 1 - x\nb y := 1 - y")
        self.assertEqual(state_classes((1, 0, 0, 1), program, "x"), [[(0, 0), (0, 1)], [(1, 0), (1, 1)]])

    def test_session(self):
        from twospeeds.errors import NotReached
        from twospeeds.session import Session
        session = Session("var x 0..2 = 0\na x := x + 1\nb x := 0")
        before = [session.run(3), session.next_act("x = 2")]
        session.change_ratio((1, 1, 5, 2))
        self.assertEqual([before, session.next_act("x = 2"), session.run(1), session.history()],
                         [[(1,), None], 4, (2,), [(0, 'start'), (3, 'ratio')]])
        session = Session("var x 0..1 = 0\na x := 1 - x")
        self.assertEqual([session.set_value("x", 1), session.history(), session.run(10 ** 20), session.shares()],
                         [(1,), [(0, 'start; set x 1')], (1,), [((0,), (1, 0, 0, 2)), ((1,), (1, 0, 0, 2))]])
        with self.assertRaises(NotReached):
            Session("var x 0..1 = 0").state_after(1)

    def test_console(self):
        from twospeeds.console import Console
        console = Console()
        loaded = console.execute("load var x 0..1 = 0 | a x := 1 | b x := 0")
        turned = console.execute("ratio 1 1 5 2")
        self.assertEqual(
            [loaded, turned, console.execute("run 4"), console.execute("next x = 0"), console.execute("shares")],
            ['ok', 'x=0', 'x=1', '5', 'x=0: 3 -1 5 2, x=1: -1 1 5 2'])


class Interface(unittest.TestCase):
    def test_names_and_arguments(self):
        for file, names in INTERFACE.items():
            module = importlib.import_module(f"twospeeds.{file}")
            for name, arguments in names.items():
                with self.subTest(file=file, name=name):
                    thing = getattr(module, name)
                    self.assertEqual(thing.__module__, f"twospeeds.{file}")
                    if arguments is not None:
                        self.assertEqual(list(inspect.signature(thing).parameters), arguments)

    def test_methods(self):
        for (file, name), methods in METHODS.items():
            defined = vars(getattr(importlib.import_module(f"twospeeds.{file}"), name))
            for method, arguments in methods.items():
                with self.subTest(name=name, method=method):
                    self.assertIn(method, defined)
                    self.assertEqual(list(inspect.signature(defined[method]).parameters), ["self"] + arguments)


if __name__ == "__main__":
    unittest.main()

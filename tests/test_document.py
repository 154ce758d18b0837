"""The examples of the document, as they stand there, and the names of its interface."""

import importlib
import inspect
import unittest

INTERFACE = {
    "errors": {
        "TwoSpeedsError": None, "SyntaxProblem": ["line", "column"], "TooMany": ["limit"],
        "InvalidNumber": None, "ZeroDivisor": None, "OtherRoot": None, "NoVariable": None,
        "OutOfRange": None, "Incompatible": None, "NotReached": None, "NoMark": None,
        "InvalidCommand": None,
    },
    "numbers": {
        "number": ["p", "q", "d", "s"], "is_number": ["thing"], "sign": ["one"], "floor": ["one"],
        "compare": ["first", "second"], "plus": ["first", "second"], "minus": ["first", "second"],
        "times": ["first", "second"], "over": ["first", "second"], "opposite": ["one"],
    },
    "quotients": {
        "expansion": ["ratio"], "quotients": ["ratio", "count"], "quotient_at": ["parts", "place"],
        "number_of": ["parts"], "convergents": ["ratio", "count"],
    },
    "order": {
        "counts": ["ratio", "count"], "act_at": ["ratio", "place"], "acts": ["ratio", "count"],
        "place_of": ["ratio", "worker", "index"], "lengths": ["ratio", "count"],
        "standard": ["ratio", "level"], "digits": ["ratio", "count"],
    },
    "expressions": {
        "parse_expression": ["text", "variables"], "evaluate": ["expression", "values"],
        "format_expression": ["expression"],
    },
    "texts": {"parse_program": ["text"], "format_program": ["program"]},
    "machine": {
        "all_states": ["program"], "start_state": ["program"], "acted": ["program", "worker", "state"],
        "maps_of": ["program"], "index_of": ["program", "state"], "states_where": ["program", "text"],
    },
}


class Examples(unittest.TestCase):
    def test_numbers(self):
        from twospeeds.numbers import number, is_number
        self.assertEqual(
            [number(2, 4, 12, -6), number(3, 1, 4, 2), is_number((1, 1, 5, 2)), is_number((2, 2, 5, 2))],
            [(-1, -4, 3, 3), (5, 0, 0, 2), True, False])

    def test_arithmetic(self):
        from twospeeds.numbers import compare, floor, over, plus
        golden = (1, 1, 5, 2)
        self.assertEqual(
            [plus(golden, (1, 0, 0, 1)), over((1, 0, 0, 1), golden), compare(golden, (0, 1, 3, 1)),
             floor((0, -1, 2, 1))],
            [(3, 1, 5, 2), (-1, 1, 5, 2), -1, -2])

    def test_expansion(self):
        from twospeeds.quotients import expansion, number_of
        self.assertEqual(
            [expansion((0, 1, 2, 1)), expansion((7, 0, 0, 5)), number_of(((1,), (2,)))],
            [((1,), (2,)), ((1, 2, 2), ()), (0, 1, 2, 1)])

    def test_convergents(self):
        from twospeeds.quotients import convergents, quotients
        self.assertEqual(
            [convergents((1, 1, 5, 2), 4), quotients((7, 0, 0, 5), 9)],
            [[(1, 1), (2, 1), (3, 2), (5, 3)], [1, 2, 2]])

    def test_acts(self):
        from twospeeds.order import acts, counts, place_of
        golden = (1, 1, 5, 2)
        self.assertEqual(
            [acts(golden, 8), counts(golden, 8), place_of(golden, "b", 3), acts((1, 0, 0, 2), 6)],
            ['abaababa', (5, 3), 7, 'babbab'])

    def test_standard_words(self):
        from twospeeds.order import digits, lengths, standard
        golden = (1, 1, 5, 2)
        self.assertEqual(
            [lengths(golden, 5), standard(golden, 3), digits(golden, 7)],
            [[1, 2, 3, 5, 8, 13], 'abaab', (0, 1, 0, 1)])

    def test_parse_program(self):
        from twospeeds.texts import parse_program
        self.assertEqual(
            parse_program("var x 0..1 = 0\na x := 1 - x"),
            ((('x', 0, 1, 0),), (('x', ('-', ('int', 1), ('name', 'x'))),), ()))

    def test_format_program(self):
        from twospeeds.texts import format_program, parse_program
        self.assertEqual(
            format_program(parse_program("var x -1..1 = 0 # sign\nb x:=if (x=1) then -x else (x+1)\na x := 0")),
            'var x -1..1 = 0\na x := 0\nb x := if x = 1 then -x else x + 1')

    def test_start_out_of_the_range(self):
        from twospeeds.errors import SyntaxProblem
        from twospeeds.texts import parse_program
        with self.assertRaises(SyntaxProblem) as caught:
            parse_program("var x 0..1 = 2")
        self.assertEqual((caught.exception.line, caught.exception.column), (1, 14))

    def test_expression(self):
        from twospeeds.expressions import evaluate, format_expression, parse_expression
        found = parse_expression("(if x > 1 then 2 else x) * -3", (("x",),))
        self.assertEqual(
            [format_expression(found), evaluate(found, {"x": 5}), evaluate(found, {"x": 1})],
            ['(if x > 1 then 2 else x) * -3', -6, -3])

    def test_maps(self):
        # The example's other two answers are those of runs.py.
        from twospeeds.machine import maps_of
        from twospeeds.texts import parse_program
        maps = maps_of(parse_program("var x 0..1 = 0\na x := 1 - x"))
        self.assertEqual(maps, ((1, 0), (0, 1)))

    def test_machine(self):
        from twospeeds.machine import acted, states_where
        from twospeeds.texts import parse_program
        program = parse_program("var x 0..2 = 0\nvar y 0..1 = 1\na x := x + y\na y := x mod 2")
        self.assertEqual(
            [acted(program, "a", (2, 1)), acted(program, "b", (2, 1)), states_where(program, "x = y")],
            [(2, 0), (2, 1), [0, 3]])


class Interface(unittest.TestCase):
    def test_names_and_arguments(self):
        for file, names in INTERFACE.items():
            module = importlib.import_module(f"twospeeds.{file}")
            for name, arguments in names.items():
                with self.subTest(file=file, name=name):
                    thing = getattr(module, name)
                    self.assertEqual(thing.__module__, f"twospeeds.{file}")
                    if arguments is not None:
                        self.assertEqual(list(inspect.signature(thing).parameters), arguments)


if __name__ == "__main__":
    unittest.main()

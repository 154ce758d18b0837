"""The examples of the document, as they stand there, and the names of its interface."""

import importlib
import inspect
import unittest

INTERFACE = {
    "errors": {
        "TwoSpeedsError": None, "SyntaxProblem": ["line", "column"], "TooMany": ["limit"],
        "InvalidNumber": None, "ZeroDivisor": None, "OtherRoot": None, "NoVariable": None,
        "OutOfRange": None, "Incompatible": None, "NotReached": None, "NoMark": None,
        "InvalidCommand": None,
    },
    "numbers": {
        "number": ["p", "q", "d", "s"], "is_number": ["thing"], "sign": ["one"], "floor": ["one"],
        "compare": ["first", "second"], "plus": ["first", "second"], "minus": ["first", "second"],
        "times": ["first", "second"], "over": ["first", "second"], "opposite": ["one"],
    },
    "quotients": {
        "expansion": ["ratio"], "quotients": ["ratio", "count"], "quotient_at": ["parts", "place"],
        "number_of": ["parts"], "convergents": ["ratio", "count"],
    },
}


class Examples(unittest.TestCase):
    def test_numbers(self):
        from twospeeds.numbers import number, is_number
        self.assertEqual(
            [number(2, 4, 12, -6), number(3, 1, 4, 2), is_number((1, 1, 5, 2)), is_number((2, 2, 5, 2))],
            [(-1, -4, 3, 3), (5, 0, 0, 2), True, False])

    def test_arithmetic(self):
        from twospeeds.numbers import compare, floor, over, plus
        golden = (1, 1, 5, 2)
        self.assertEqual(
            [plus(golden, (1, 0, 0, 1)), over((1, 0, 0, 1), golden), compare(golden, (0, 1, 3, 1)),
             floor((0, -1, 2, 1))],
            [(3, 1, 5, 2), (-1, 1, 5, 2), -1, -2])

    def test_expansion(self):
        from twospeeds.quotients import expansion, number_of
        self.assertEqual(
            [expansion((0, 1, 2, 1)), expansion((7, 0, 0, 5)), number_of(((1,), (2,)))],
            [((1,), (2,)), ((1, 2, 2), ()), (0, 1, 2, 1)])

    def test_convergents(self):
        from twospeeds.quotients import convergents, quotients
        self.assertEqual(
            [convergents((1, 1, 5, 2), 4), quotients((7, 0, 0, 5), 9)],
            [[(1, 1), (2, 1), (3, 2), (5, 3)], [1, 2, 2]])


class Interface(unittest.TestCase):
    def test_names_and_arguments(self):
        for file, names in INTERFACE.items():
            module = importlib.import_module(f"twospeeds.{file}")
            for name, arguments in names.items():
                with self.subTest(file=file, name=name):
                    thing = getattr(module, name)
                    self.assertEqual(thing.__module__, f"twospeeds.{file}")
                    if arguments is not None:
                        self.assertEqual(list(inspect.signature(thing).parameters), arguments)


if __name__ == "__main__":
    unittest.main()

"""The error classes: the interface's heading of stage 1."""

import unittest

from twospeeds import errors

PLAIN = ["InvalidNumber", "ZeroDivisor", "OtherRoot", "NoVariable", "OutOfRange",
         "Incompatible", "NotReached", "NoMark", "InvalidCommand"]


class Errors(unittest.TestCase):
    def test_base_is_directly_under_value_error(self):
        self.assertEqual(errors.TwoSpeedsError.__bases__, (ValueError,))
        self.assertEqual(str(errors.TwoSpeedsError("why")), "why")

    def test_each_class_is_directly_under_the_base(self):
        for name in PLAIN + ["SyntaxProblem", "TooMany"]:
            with self.subTest(name):
                self.assertEqual(getattr(errors, name).__bases__, (errors.TwoSpeedsError,))

    def test_classes_are_defined_in_the_file(self):
        for name in PLAIN + ["SyntaxProblem", "TooMany", "TwoSpeedsError"]:
            with self.subTest(name):
                self.assertEqual(getattr(errors, name).__module__, "twospeeds.errors")

    def test_there_are_no_other_classes(self):
        found = [name for name, thing in vars(errors).items() if isinstance(thing, type)]
        self.assertEqual(sorted(found), sorted(PLAIN + ["SyntaxProblem", "TooMany", "TwoSpeedsError"]))

    def test_plain_errors_are_made_with_a_message(self):
        for name in PLAIN:
            with self.subTest(name):
                self.assertEqual(str(getattr(errors, name)("some words")), "some words")

    def test_fields_of_syntax_problem(self):
        problem = errors.SyntaxProblem(3, 14)
        self.assertEqual((problem.line, problem.column), (3, 14))
        self.assertIsInstance(str(problem), str)

    def test_field_of_too_many(self):
        self.assertEqual(errors.TooMany(400).limit, 400)
        self.assertEqual(errors.TooMany(2000).limit, 2000)
        self.assertIsInstance(str(errors.TooMany(400)), str)

    def test_no_error_catches_another(self):
        names = PLAIN + ["SyntaxProblem", "TooMany"]
        for name in names:
            for other in names:
                if name != other:
                    self.assertFalse(issubclass(getattr(errors, name), getattr(errors, other)))


if __name__ == "__main__":
    unittest.main()

"""Texts of programs: points 7 and 9, parse_program and format_program."""

import random
import unittest

from twospeeds.errors import SyntaxProblem
from twospeeds.expressions import parse_expression
from twospeeds.texts import format_program, parse_program

X = ("name", "x")
Y = ("name", "y")
ONE = ("int", 1)
VAR = "var x 0..1 = 0"


class Forms(unittest.TestCase):
    def check(self, text, form):
        found = parse_program(text)
        self.assertEqual(found, form)
        self.assertIs(type(found), tuple)
        self.assertEqual([type(part) for part in found], [tuple] * 3)

    def test_examples(self):
        self.check("var x 0..1 = 0\na x := 1 - x", ((("x", 0, 1, 0),), (("x", ("-", ONE, X)),), ()))

    def test_variables(self):
        self.check(VAR, ((("x", 0, 1, 0),), (), ()))
        self.check("var abcdefgh 3..3 = 3", ((("abcdefgh", 3, 3, 3),), (), ()))
        self.check("var x 0..2 = 2\nvar y 5..8 = 6", ((("x", 0, 2, 2), ("y", 5, 8, 6)), (), ()))
        self.check("var v2 0..0 = 0\nvar v1 0..0 = 0\nvar v4 0..0 = 0\nvar v3 0..0 = 0",
                   (tuple((name, 0, 0, 0) for name in ("v2", "v1", "v4", "v3")), (), ()))
        self.check("var x 9990..9999 = 9995", ((("x", 9990, 9999, 9995),), (), ()))

    def test_negative_values(self):
        self.check("var x -1..1 = 0", ((("x", -1, 1, 0),), (), ()))
        self.check("var x -5..-3 = -4", ((("x", -5, -3, -4),), (), ()))
        self.check("var x -9999..-9990 = -9999", ((("x", -9999, -9990, -9999),), (), ()))
        self.check("var x - 5 .. - 3 = - 3", ((("x", -5, -3, -3),), (), ()))
        self.check("var x -0..1 = -0", ((("x", 0, 1, 0),), (), ()))
        self.check("var x-1..-0=-0", ((("x", -1, 0, 0),), (), ()))

    def test_twelve_states(self):
        self.check("var x 0..11 = 11", ((("x", 0, 11, 11),), (), ()))
        self.check("var x -6..5 = 0", ((("x", -6, 5, 0),), (), ()))
        self.check("var x 0..2 = 0\nvar y 0..3 = 0", ((("x", 0, 2, 0), ("y", 0, 3, 0)), (), ()))
        self.check("var x 0..1 = 0\nvar y 0..0 = 0\nvar z 1..3 = 1\nvar w 0..1 = 0",
                   ((("x", 0, 1, 0), ("y", 0, 0, 0), ("z", 1, 3, 1), ("w", 0, 1, 0)), (), ()))

    def test_rules_have_the_order_of_the_variables(self):
        variables = (("x", 0, 1, 0), ("y", 0, 1, 0))
        head = "var x 0..1 = 0\nvar y 0..1 = 0\n"
        self.check(head + "b y := x\na y := 1\nb x := y\na x := 0",
                   (variables, (("x", ("int", 0)), ("y", ONE)), (("x", Y), ("y", X))))
        self.check(head + "a y := x", (variables, (("y", X),), ()))
        self.check(head + "b y := x", (variables, (), (("y", X),)))
        self.check(head + "b y := x\na y := x", (variables, (("y", X),), (("y", X),)))

    def test_spaces(self):
        self.check("  var   x 0 .. 1=0  \n   a   x:=1-x   ", ((("x", 0, 1, 0),), (("x", ("-", ONE, X)),), ()))
        self.check("var x 0..1=0\nb x:=x", ((("x", 0, 1, 0),), (), (("x", X),)))

    def test_comments(self):
        self.check("# first\nvar x 0..1 = 0 # var y 0..1 = 0\na x := x# + !\n#", ((("x", 0, 1, 0),), (("x", X),), ()))
        self.check("var x 0..1 = 0#", ((("x", 0, 1, 0),), (), ()))
        self.check("var x 0..1 = 0 # one # two \t ABC abcdefghijk 12345", ((("x", 0, 1, 0),), (), ()))

    def test_lines_without_tokens(self):
        self.check("\n\n   \nvar x 0..1 = 0\n\n  # nothing\na x := x\n\n", ((("x", 0, 1, 0),), (("x", X),), ()))

    def test_names_like_words(self):
        self.check("var iff 0..1 = 0\nvar b2 0..1 = 0\na b2 := iff\nb iff := b2",
                   ((("iff", 0, 1, 0), ("b2", 0, 1, 0)), (("b2", ("name", "iff")),), (("iff", ("name", "b2")),)))

    def test_each_expression_is_the_one_of_parse_expression(self):
        for text in ["x", "-x", "not x = y", "if x then y else x mod y", "(x + y) * 3 - 1", "x or y and not x"]:
            variables = (("x", 0, 1, 0), ("y", 0, 1, 0))
            form = parse_expression(text, variables)
            head = "var x 0..1 = 0\nvar y 0..1 = 0\n"
            self.check(f"{head}a y := {text} # text", (variables, (("y", form),), ()))
            self.check(f"{head}b x:={text}", (variables, (), (("x", form),)))

    def test_30_lines(self):
        form = ((("x", 0, 1, 0),), (), ())
        self.check("\n" * 29 + VAR, form)
        self.check(VAR + "\n#" * 29, form)
        self.check(VAR + "\n" * 29, form)

    def test_100_tokens(self):
        # "a x :=" and 97 tokens.
        text = "+".join(["x"] * 49)
        found = parse_program(f"{VAR}\na x := {text}")
        self.assertEqual(found[1][0][1], parse_expression(text, (("x",),)))
        parse_program(f"{VAR}\na x := {text} # and more tokens")


class Problems(unittest.TestCase):
    def check(self, text, line, column):
        with self.subTest(text):
            with self.assertRaises(SyntaxProblem) as caught:
                parse_program(text)
            self.assertEqual((caught.exception.line, caught.exception.column), (line, column))

    def check_variable(self, text, column):
        """A line that declares a variable, alone and behind another one."""
        self.check(text, 1, column)
        self.check(f"{text}\n!!!", 1, column)
        self.check(f"# text\nvar other 0..0 = 0\n{text}", 3, column)

    def check_rule(self, text, column):
        """A line with a rule, behind the variables x and y, and with each worker."""
        head = "var x 0..1 = 0\nvar y 0..1 = 1\n\n"
        self.check(head + text, 4, column)
        self.check(head + text + "\na !", 4, column)
        self.check(head + text.replace("a", "b", 1), 4, column)

    def test_tokens_of_a_variable(self):
        self.check_variable("var", 4)
        self.check_variable("var  ", 6)
        self.check_variable("var 1", 5)
        self.check_variable("var var", 5)
        self.check_variable("var a 0..1 = 0", 5)
        self.check_variable("var mod 0..1 = 0", 5)
        self.check_variable("var (x) 0..1 = 0", 5)
        self.check_variable("var x", 6)
        self.check_variable("var x = 0..1", 7)
        self.check_variable("var x y", 7)
        self.check_variable("var x -", 8)
        self.check_variable("var x --1..1 = 0", 8)
        self.check_variable("var x +1..1 = 0", 7)
        self.check_variable("var x (0)..1 = 0", 7)
        self.check_variable("var x 0", 8)
        self.check_variable("var x 0 1", 9)
        self.check_variable("var x 0 = 1", 9)
        self.check_variable("var x 0-1", 8)
        self.check_variable("var x 0..", 10)
        self.check_variable("var x 0..x = 0", 10)
        self.check_variable("var x 0..-x = 0", 11)
        self.check_variable("var x 0..1", 11)
        self.check_variable("var x 0..1 := 0", 12)
        self.check_variable("var x 0..1 0", 12)
        self.check_variable("var x 0..1 =", 13)
        self.check_variable("var x 0..1 = x", 14)
        self.check_variable("var x 0..1 = -", 15)
        self.check_variable("var x 0..1 = 0 0", 16)
        self.check_variable("var x 0..1 = 0 + 1", 16)
        self.check_variable("var x 0..1 = (0)", 14)
        self.check_variable("var x 0..1 = 0 var", 16)
        self.check_variable("var x 0..1 = 0, 1", 15)

    def test_names_of_variables(self):
        self.check_variable("var abcdefghi 0..1 = 0", 5)
        self.check_variable("var a23456789 0..1 = 0", 5)
        self.check_variable("var X 0..1 = 0", 5)
        self.check_variable("var xY 0..1 = 0", 6)
        self.check_variable("var 2x 0..1 = 0", 5)
        self.check_variable("var x_y 0..1 = 0", 6)
        parse_program("var abcdefgh 0..1 = 0")
        parse_program("var a2345678 0..1 = 0")

    def test_numbers_of_variables(self):
        self.check_variable("var x 00..1 = 0", 7)
        self.check_variable("var x 0..01 = 0", 10)
        self.check_variable("var x 0..1 = 00", 14)
        self.check_variable("var x -01..1 = 0", 8)
        self.check_variable("var x 9999..10000 = 9999", 13)
        self.check_variable("var x -10000..-9999 = -9999", 8)
        self.check_variable("var x 1.5..2 = 2", 8)
        self.check_variable("var x 0.1 = 0", 8)
        self.check_variable("var x 0...1 = 0", 10)

    def test_a_name_that_is_declared_twice(self):
        self.check("var x 0..1 = 0\nvar x 0..1 = 0", 2, 5)
        self.check("var x 0..1 = 0\nvar y 0..1 = 0\n  var   x 5..1 =", 3, 9)
        self.check("var x 0..1 = 0\nvar x", 2, 5)

    def test_a_fifth_variable(self):
        four = "".join(f"var v{at} 0..0 = 0\n" for at in range(4))
        self.check(four + "var v4 0..0 = 0", 5, 5)
        self.check(four + "var  v1 0..0 = 0", 5, 6)
        self.check(four + "var x", 5, 5)
        self.check(four + "var", 5, 4)
        self.check(four + "var 3", 5, 5)
        parse_program(four)

    def test_high_below_low(self):
        self.check_variable("var x 1..0 = 0", 10)
        self.check_variable("var x 0..-1 = 0", 10)
        self.check_variable("var x -3..-4 = -3", 11)
        self.check_variable("var x -3..- 4 = -3", 11)
        self.check_variable("var x 5..  4 = 5", 12)
        self.check_variable("var x 9999..0 = 0", 13)

    def test_too_many_states(self):
        self.check("var x 0..12 = 0", 1, 10)
        self.check("var x -6..6 = 0", 1, 11)
        self.check("var x 0..9999 = 0", 1, 10)
        self.check("var x -9999..-1 = -1", 1, 14)
        self.check("var x 0..2 = 0\nvar y 0..4 = 0", 2, 10)
        self.check("var x 0..2 = 0\nvar y -2..2 = 0", 2, 11)
        self.check("var x 0..11 = 0\nvar y 0..0 = 0\nvar z 0..1 = 0", 3, 10)
        self.check("var x 0..1 = 0\nvar y 0..1 = 0\nvar z 0..1 = 0\nvar w 0..1 = 0", 4, 10)
        # A product of 12 and of 13 values.
        parse_program("var x 1..12 = 1\nvar y 0..0 = 0")
        self.check("var y 0..0 = 0\nvar x 1..13 = 1", 2, 10)

    def test_start_out_of_the_range(self):
        self.check_variable("var x 0..1 = 2", 14)
        self.check_variable("var x 0..1 = -1", 14)
        self.check_variable("var x 0..1 =  - 1", 15)
        self.check_variable("var x 5..6 = 4", 14)
        self.check_variable("var x -3..-2 = -4", 16)
        self.check_variable("var x -3..-2 = 2", 16)
        self.check_variable("var x 0..0 = 9999", 14)

    def test_tokens_of_a_rule(self):
        self.check_rule("a", 2)
        self.check_rule("a  ", 4)
        self.check_rule("a 1", 3)
        self.check_rule("a a := 1", 3)
        self.check_rule("a x", 4)
        self.check_rule("a x = 1", 5)
        self.check_rule("a x + 1", 5)
        self.check_rule("a x y", 5)
        self.check_rule("a x : = 1", 5)
        self.check_rule("a x :=", 7)
        self.check_rule("a x := ", 8)
        self.check_rule("a x := )", 8)
        self.check_rule("a x := x x", 10)
        self.check_rule("a x := x := 1", 10)
        self.check_rule("a x := (x", 10)
        self.check_rule("a x := x)", 9)
        self.check_rule("a x := x = 1 = y", 14)
        self.check_rule("a x := if x then y", 19)
        self.check_rule("a x := a", 8)
        self.check_rule("a x := 0..1", 9)
        self.check_rule("a x := x + 01", 12)
        self.check_rule("a x := x + 10000", 12)
        self.check_rule("a x := x ! y", 10)
        self.check_rule("a x := x\ty", 9)

    def test_names_that_are_not_declared(self):
        self.check_rule("a z := 1", 3)
        self.check_rule("a  z", 4)
        self.check_rule("a x := z", 8)
        self.check_rule("a x := x + (y * z)", 17)
        self.check_rule("a x := zz zz", 8)
        self.check_rule("a xx := 1", 3)
        # A name is declared only by a line in front.
        self.check("var x 0..1 = 0\na y := 1\nvar y 0..1 = 0", 2, 3)

    def test_a_second_rule(self):
        head = "var x 0..1 = 0\nvar y 0..1 = 0\n"
        self.check(head + "a x := 1\na x := 0", 4, 3)
        self.check(head + "a x := 1\na x := 1", 4, 3)
        self.check(head + "b x := 1\na x := 1\n   b  x := z", 5, 7)
        self.check(head + "b x := 1\nb y := 1\nb x", 5, 3)
        parse_program(head + "a x := 1\nb x := 1\na y := 1\nb y := 1")

    def test_the_order_of_the_items(self):
        self.check("a x := 1\nvar x 0..1 = 0", 1, 1)
        self.check("  b x := 1", 1, 3)
        self.check("# text\n a", 2, 2)
        self.check("\nb\nvar x 0..1 = 0", 2, 1)
        self.check(VAR + "\na x := 1\nvar y 0..1 = 0", 3, 1)
        self.check(VAR + "\nb x := 1\n  var x 5..1", 3, 3)
        self.check(VAR + "\na x := 1\n\nvar", 4, 1)
        self.check(VAR + "\na x := 1\nb x := 1\nvar y 0..1 = 0", 4, 1)
        self.check("var x 0..1 = 0\nvar y 0..1 = 0\na x := 1\nb x := 1\nb y := 1\nvar z 0..1 = 0", 6, 1)

    def test_items_of_another_kind(self):
        for text in ["x := 1", "if x then 1 else 0", "1", "c x := 1", "vary 0..1 = 0", ":= 1", "(a x := 1)", "or",
                     "abcdefgh", "- 1", "..", "="]:
            self.check(text, 1, 1)
            self.check(f"  {text}", 1, 3)
            self.check(f"{VAR}\n {text}", 2, 2)
            self.check(f"{VAR}\na x := 1\n {text}", 3, 2)
        self.check("VAR x 0..1 = 0", 1, 1)

    def test_the_end_of_a_line(self):
        self.check("var x 0..1 =   ", 1, 16)
        self.check("var x 0..1 =#", 1, 13)
        self.check("var x 0..1 = # 0", 1, 14)
        self.check("var x 0..1 =    # 0", 1, 17)
        self.check("var# x", 1, 4)
        self.check(f"{VAR}\na x := # 1", 2, 8)
        self.check(f"{VAR}\na x := (x # 1)", 2, 11)
        self.check(f"{VAR}\na x # := 1 # 2", 2, 5)
        self.check(f"{VAR}\n  a #", 2, 5)
        self.check(f"{VAR}\n  a\n", 2, 4)

    def test_tabs(self):
        self.check("\tvar x 0..1 = 0", 1, 1)
        self.check("var x 0..1 = 0\t", 1, 15)
        self.check("var x 0..1 = 0\n\t", 2, 1)
        parse_program("var x 0..1 = 0 #\t")

    def test_number_of_tokens(self):
        text = "a x := " + "+".join(["x"] * 49)
        # These are 100 tokens.
        parse_program(f"{VAR}\n{text}")
        parse_program(f"{VAR}\n{text} # x ! 007")
        self.check(f"{VAR}\n{text[:-1]}-", 2, len(text) + 1)
        self.check(f"{VAR}\n{text[:-1]}", 2, len(text))
        for behind in ["x", "+", "+ x", "!", "007", "+ 007", ")"]:
            self.check(f"{VAR}\n{text} {behind}", 2, len(text) + 2)
        self.check(f"{VAR}\n{text[:7]}-{text[7:]}", 2, len(text) + 1)
        self.check("x " * 101, 1, 201)
        self.check("x " * 100, 1, 1)
        # Behind the 7 tokens of the variable.
        self.check(VAR + " 1" * 92, 1, 16)
        self.check(VAR + " 1" * 93, 1, 16)
        self.check(VAR + " 1" * 94, 1, len(VAR + " 1" * 93 + " ") + 1)

    def test_levels(self):
        for many, wrong in [(19, False), (20, True), (21, True)]:
            text = f"{VAR}\nb x := " + "(" * many + "x" + ")" * many
            if wrong:
                self.check(text, 2, 28)
            else:
                parse_program(text)
        self.check(f"{VAR}\na x := " + "not " * 20 + "x", 2, 88)
        self.check(f"{VAR}\na x := " + "-" * 20 + "x", 2, 28)
        self.check(f"{VAR}\na x := " + "if " * 20 + "x", 2, 68)

    def test_31_lines(self):
        self.check(VAR + "\n" * 30, 31, 1)
        self.check(VAR + "\n" * 29 + "\n!", 31, 1)
        self.check(VAR + "\n" * 30 + "a x := 1", 31, 1)
        self.check(VAR + "\n" * 30 + "   a x := z", 31, 1)
        self.check(VAR + "\n" * 40 + "!", 31, 1)
        self.check("\n" * 30 + VAR, 31, 1)
        # The lines in front come first.
        self.check(VAR + "\n" * 29 + "!\n", 30, 1)
        self.check("a x := 1" + "\n" * 35, 1, 1)

    def test_texts_without_variables(self):
        self.check("", 2, 1)
        self.check("   ", 2, 1)
        self.check("# text", 2, 1)
        self.check("\n", 3, 1)
        self.check("# one\n\n  # two", 4, 1)
        self.check("\n" * 29, 31, 1)
        self.check("\n" * 30, 31, 1)

    def test_first_problem_of_a_line(self):
        # Tokens come first, then one token after the other.
        self.check("var x 5..1 = 9 !", 1, 16)
        self.check("a x := 1 !", 1, 10)
        self.check("z !", 1, 3)
        self.check("var x 0..1 = 2 007", 1, 16)
        self.check("var x 5..1 = 9 9", 1, 10)
        self.check("var x 0..1 = 2 9", 1, 14)
        self.check("var x 0..99 = 100 +", 1, 10)
        self.check(f"{VAR}\nvar x 5..1 = 9 9", 2, 5)
        self.check(f"{VAR}\na z := w", 2, 3)
        self.check(f"{VAR}\na z 1", 2, 3)
        self.check(f"{VAR}\na x := w w", 2, 8)
        self.check(f"{VAR}\na x := x w", 2, 10)
        self.check(f"{VAR}\na z := 12345", 2, 8)
        self.check(f"{VAR}\na x := abcdefghi + 12345", 2, 8)
        self.check(f"{VAR}\na x := 12345 + abcdefghi", 2, 8)
        self.check(f"{VAR}\na x := " + "(" * 20 + "w", 2, 28)
        self.check(f"{VAR}\na x := w + " + "(" * 20 + "x", 2, 8)

    def test_first_problem_of_a_text(self):
        self.check("var x 0..1 = 0\na x := z\na x := !", 2, 8)
        self.check("var x 0..1 = 2\n!", 1, 14)
        self.check("\n\nvar x 0..1 = 0 0\nvar x 0..1 = 0\n\n!", 3, 16)
        self.check("x\nvar x 0..1 =", 1, 1)
        self.check("# !\n #\nb x := 1\n!", 3, 1)


class Canonical(unittest.TestCase):
    def check(self, text, canonical):
        form = parse_program(text)
        self.assertEqual(format_program(form), canonical)
        self.assertEqual(parse_program(canonical), form)
        self.assertEqual(format_program(parse_program(canonical)), canonical)

    def test_example(self):
        self.check("var x -1..1 = 0 # sign\nb x:=if (x=1) then -x else (x+1)\na x := 0",
                   "var x -1..1 = 0\na x := 0\nb x := if x = 1 then -x else x + 1")

    def test_variables(self):
        self.check(" var x 0 .. 1=0 ", "var x 0..1 = 0")
        self.check("var x - 5..- 3=- 4", "var x -5..-3 = -4")
        self.check("var x -0..-0 = -0", "var x 0..0 = 0")
        self.check("\nvar y 0..1 = 1\n\nvar x 3..4 = 3 #", "var y 0..1 = 1\nvar x 3..4 = 3")

    def test_rules(self):
        self.check("var x 0..1 = 0\nvar y 0..1 = 0\nb y:=(x)\nb x := not(y)\na y := (x+y)*2\na x:=x",
                   "var x 0..1 = 0\nvar y 0..1 = 0\na x := x\na y := (x + y) * 2\nb x := not y\nb y := x")
        self.check("var x 0..1 = 0\nb x := 1", "var x 0..1 = 0\nb x := 1")

    def test_canonical_texts_stay(self):
        for text in ["var x 0..11 = 5", "var x 0..1 = 0\na x := x mod 2 - -x\nb x := not (x or x)",
                     "var x 0..1 = 0\nvar y -2..0 = -1\na y := if x then y - 1 else -y\nb x := x\nb y := (not x) + 1"]:
            self.check(text, text)

    def test_no_newline_at_the_end(self):
        self.check("var x 0..1 = 0\n\n\n", "var x 0..1 = 0")

    def test_many(self):
        rng = random.Random(91)
        for _ in range(400):
            names = rng.sample(["x", "y", "speed", "n1", "orb"], rng.randint(1, 4))
            rows = []
            for at, name in enumerate(names):
                low = rng.randint(-5, 5)
                high = low + (rng.randint(0, 2) if at < 2 else 0)
                rows.append(f"var {name} {low}..{high} = {rng.randint(low, high)}")
            rules = [f"{worker} {name} := {self.term(rng, names, 3)}" for worker in "ab" for name in names
                     if rng.random() < 0.7]
            canonical = "\n".join(rows + rules)
            rng.shuffle(rules)
            wide = [row.replace(" ", "  ") + "  # text" for row in rows + rules]
            self.assertEqual(format_program(parse_program("\n".join(wide))),
                             format_program(parse_program(canonical)))
            self.check("\n".join(wide), format_program(parse_program("\n".join(wide))))
            self.assertEqual(format_program(parse_program(canonical)).split("\n")[:len(rows)], rows)

    def term(self, rng, names, depth):
        if depth == 0:
            return rng.choice(names + ["0", "12"])
        one = self.term(rng, names, depth - 1)
        other = self.term(rng, names, depth - 1)
        return rng.choice([f"({one}) + ({other})", f"-({one})", f"not ({one})", f"({one}) < ({other})",
                           f"if {one} then {other} else 1", f"({one}) mod ({other})", one])


if __name__ == "__main__":
    unittest.main()

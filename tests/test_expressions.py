"""Expressions: points 7 and 8, point 2 and parse_expression, evaluate and format_expression."""

import random
import unittest

from grammar import first_problem
from twospeeds.errors import SyntaxProblem, TwoSpeedsError
from twospeeds.expressions import evaluate, format_expression, parse_expression

NAMES = (("x",), ("y",), ("n1",))
X = ("name", "x")
Y = ("name", "y")
N = ("name", "n1")
COMPARISONS = ["=", "!=", "<", "<=", ">", ">="]
# The binary operators from the loosest to the tightest, those of one place together.
PLACES = [["or"], ["and"], COMPARISONS, ["+", "-"], ["*", "mod"]]
BINARY = [sign for place in PLACES for sign in place]


def one(n):
    return ("int", n)


def parsed(text):
    return parse_expression(text, NAMES)


def place_of(operator):
    return [operator in place for place in PLACES].index(True)


def spelled(form):
    """A text of a form with all the parentheses that there can be."""
    kind = form[0]
    if kind in ("int", "name"):
        return str(form[1])
    parts = [f"({spelled(part)})" for part in form[1:]]
    if kind == "if":
        return "if {} then {} else {}".format(*parts)
    if kind in ("not", "neg"):
        return {"not": "not ", "neg": "-"}[kind] + parts[0]
    return f"{parts[0]} {kind} {parts[1]}"


def sample(rng, depth):
    """A form at random."""
    if depth == 0 or rng.random() < 0.15:
        return rng.choice([X, Y, N, one(0), one(1), one(rng.randint(0, 9999))])
    kind = rng.choice(["if", "not", "neg", "not", "neg"] + BINARY + ["or", "and", "+", "-", "*", "mod"])
    many = {"if": 3, "not": 1, "neg": 1}.get(kind, 2)
    return (kind,) + tuple(sample(rng, depth - 1) for _ in range(many))


def source(form):
    """A form as an expression of Python's own, whose values are integers."""
    kind = form[0]
    if kind == "int":
        return str(form[1])
    if kind == "name":
        return form[1]
    parts = [f"({source(part)})" for part in form[1:]]
    if kind == "if":
        return "({1} if {0} != 0 else {2})".format(*parts)
    if kind == "neg":
        return f"(-{parts[0]})"
    if kind == "not":
        return f"int(not {parts[0]})"
    if kind == "mod":
        return "modulo({}, {})".format(*parts)
    if kind in ("and", "or"):
        return f"int(bool({parts[0]}) {kind} bool({parts[1]}))"
    if kind in COMPARISONS:
        return f"int({parts[0]} {'==' if kind == '=' else kind} {parts[1]})"
    return f"({parts[0]} {kind} {parts[1]})"


def modulo(top, bottom):
    """The remainder that has the sign of bottom, found step by step from the sizes."""
    if bottom == 0:
        return 0
    rest = abs(top) - abs(top) // abs(bottom) * abs(bottom)
    if rest != 0 and (top < 0) != (bottom < 0):
        rest = abs(bottom) - rest
    return rest if bottom > 0 else -rest


class Forms(unittest.TestCase):
    def check(self, text, form):
        self.assertEqual(parsed(text), form)

    def test_single(self):
        self.check("0", one(0))
        self.check("7", one(7))
        self.check("9999", one(9999))
        self.check("x", X)
        self.check("n1", N)
        self.check("(x)", X)
        self.check("(((7)))", one(7))

    def test_each_binary_operator(self):
        for sign in BINARY:
            self.check(f"x {sign} 1", (sign, X, one(1)))

    def test_place_of_each_pair_of_operators(self):
        for first in BINARY:
            for second in BINARY:
                text = f"x {first} y {second} 3"
                with self.subTest(text):
                    if place_of(first) < place_of(second):
                        self.check(text, (first, X, (second, Y, one(3))))
                    elif first not in COMPARISONS or second not in COMPARISONS:
                        self.check(text, (second, (first, X, Y), one(3)))
                    else:
                        with self.assertRaises(SyntaxProblem) as caught:
                            parsed(text)
                        self.assertEqual(caught.exception.column, len(f"x {first} y ") + 1)

    def test_left_side(self):
        for place in PLACES:
            for first in place:
                for second in place:
                    if first not in COMPARISONS:
                        self.check(f"1 {first} 2 {second} 3 {first} 4",
                                   (first, (second, (first, one(1), one(2)), one(3)), one(4)))

    def test_not(self):
        self.check("not x", ("not", X))
        self.check("not not x", ("not", ("not", X)))
        self.check("not not not not 1", ("not", ("not", ("not", ("not", one(1))))))
        for sign in ["or", "and"]:
            self.check(f"not x {sign} y", (sign, ("not", X), Y))
            self.check(f"x {sign} not y", (sign, X, ("not", Y)))
            self.check(f"not x {sign} not y", (sign, ("not", X), ("not", Y)))
        for sign in COMPARISONS + ["+", "-", "*", "mod"]:
            self.check(f"not x {sign} y", ("not", (sign, X, Y)))
            self.check(f"(not x) {sign} y", (sign, ("not", X), Y))
            self.check(f"x {sign} (not y)", (sign, X, ("not", Y)))

    def test_minus_in_front(self):
        self.check("-x", ("neg", X))
        self.check("- x", ("neg", X))
        self.check("--x", ("neg", ("neg", X)))
        self.check("- - -1", ("neg", ("neg", ("neg", one(1)))))
        self.check("-0", ("neg", one(0)))
        for sign in BINARY:
            self.check(f"-x {sign} y", (sign, ("neg", X), Y))
            self.check(f"x {sign} -y", (sign, X, ("neg", Y)))
            self.check(f"x {sign} --y", (sign, X, ("neg", ("neg", Y))))
            self.check(f"-(x {sign} y)", ("neg", (sign, X, Y)))
        self.check("1--1", ("-", one(1), ("neg", one(1))))
        self.check("not -x", ("not", ("neg", X)))
        self.check("-(not x)", ("neg", ("not", X)))

    def test_if(self):
        self.check("if x then y else 1", ("if", X, Y, one(1)))
        # The last part takes all that follows.
        for sign in BINARY:
            self.check(f"if x then y else 1 {sign} 2", ("if", X, Y, (sign, one(1), one(2))))
            self.check(f"if x {sign} 1 then y {sign} 2 else 3",
                       ("if", (sign, X, one(1)), (sign, Y, one(2)), one(3)))
        self.check("if not x then not y else -1", ("if", ("not", X), ("not", Y), ("neg", one(1))))

    def test_if_in_each_part_of_an_if(self):
        inner = ("if", one(1), one(2), one(3))
        text = "if 1 then 2 else 3"
        self.check(f"if {text} then x else y", ("if", inner, X, Y))
        self.check(f"if x then {text} else y", ("if", X, inner, Y))
        self.check(f"if x then y else {text}", ("if", X, Y, inner))
        self.check(f"if {text} then {text} else {text}", ("if", inner, inner, inner))

    def test_if_in_each_operand(self):
        inner = ("if", X, one(1), one(2))
        text = "if x then 1 else 2"
        for sign in BINARY:
            self.check(f"({text}) {sign} y", (sign, inner, Y))
            self.check(f"y {sign} ({text})", (sign, Y, inner))
            self.check_problem(f"y {sign} {text}", len(f"y {sign} ") + 1)
        self.check(f"not ({text})", ("not", inner))
        self.check(f"-({text})", ("neg", inner))
        self.check_problem(f"not {text}", 5)
        self.check_problem(f"-{text}", 2)
        self.check(f"({text})", inner)

    def check_problem(self, text, column):
        with self.assertRaises(SyntaxProblem) as caught:
            parsed(text)
        self.assertEqual((caught.exception.line, caught.exception.column), (1, column))

    def test_not_is_no_operand_of_a_tighter_operator(self):
        for sign in COMPARISONS + ["+", "-", "*", "mod"]:
            self.check_problem(f"x {sign} not y", len(f"x {sign} ") + 1)
        self.check_problem("-not x", 2)

    def test_spaces(self):
        self.check("x+1", ("+", X, one(1)))
        self.check("   x   +   1   ", ("+", X, one(1)))
        self.check("x<=1", ("<=", X, one(1)))
        self.check("x<-1", ("<", X, ("neg", one(1))))
        self.check("x=-1", ("=", X, ("neg", one(1))))
        self.check("x!=1", ("!=", X, one(1)))
        self.check("if(x)then(y)else(1)", ("if", X, Y, one(1)))
        self.check("not(x)", ("not", X))
        self.check("(x)mod(y)", ("mod", X, Y))
        self.check("1mod 2", ("mod", one(1), one(2)))
        self.check("1or 2and 3", ("or", one(1), ("and", one(2), one(3))))

    def test_spaces_separate_tokens(self):
        for text, column in [("x < = 1", 5), ("x ! = 1", 3), ("1 2", 3), ("x y", 3), ("n 1", 1), ("i f x", 1)]:
            self.check_problem(text, column)

    def test_variables(self):
        declared = (("speed", 0, 3, 1), ("x2", -1, 1, 0))
        self.assertEqual(parse_expression("speed * x2", declared), ("*", ("name", "speed"), ("name", "x2")))
        self.assertEqual(parse_expression("abcdefgh", (("abcdefgh",),)), ("name", "abcdefgh"))
        self.assertEqual(parse_expression("iff + orb", (("iff",), ("orb",))), ("+", ("name", "iff"), ("name", "orb")))
        self.assertEqual(parse_expression("1 + 2", ()), ("+", one(1), one(2)))

    def test_kinds_of_values(self):
        form = parsed("if not x then -1 else y * 2")
        rows = [form]
        while rows:
            row = rows.pop()
            self.assertIs(type(row), tuple)
            rows += [part for part in row[1:] if not isinstance(part, (int, str))]
        self.assertIs(type(parsed("7")[1]), int)


class Problems(unittest.TestCase):
    def check(self, text, column, names=NAMES):
        with self.subTest(text):
            with self.assertRaises(SyntaxProblem) as caught:
                parse_expression(text, names)
            self.assertEqual((caught.exception.line, caught.exception.column), (1, column))
            self.assertIsInstance(caught.exception, TwoSpeedsError)

    def test_characters_that_start_no_token(self):
        for sign in "!\"#$%&',./:;?@[\\]^_`{|}~ABCXYZ\t\n":
            self.check(f"x + {sign}", 5)
            self.check(f"{sign} x", 1)
            self.check(f"x{sign}", 2)
        self.check("x # y", 3)
        self.check("#", 1)
        self.check("x\n+ 1", 2)
        self.check("x\t+ 1", 2)
        self.check("xY", 2)
        self.check("x_1", 2)
        self.check("1.5", 2)

    def test_symbols_that_no_expression_has(self):
        self.check("x .. 1", 3)
        self.check("x := 1", 3)
        self.check("x...", 4)
        self.check("x !", 3)
        self.check("x != !", 6)
        self.check("x : = 1", 3)

    def test_names(self):
        long = (("abcdefgh",), ("abcdefghi",), ("a2345678",), ("a23456789",))
        self.assertEqual(parse_expression("abcdefgh", long), ("name", "abcdefgh"))
        self.assertEqual(parse_expression("a2345678", long), ("name", "a2345678"))
        self.check("abcdefghi", 1, long)
        self.check("1 + abcdefghi", 5, long)
        self.check("1 + a23456789 + 1", 5, long)
        self.check("1 + abcdefghijklmnopqrstuvwxyz", 5, long)
        self.check("z", 1)
        self.check("x + z * z", 5)
        self.check("xx", 1)
        self.check("x1", 1)
        self.check("x", 1, ())

    def test_words_are_no_names(self):
        for word in "var a b if then else not and or mod".split():
            names = ((word,), ("x",))
            column = {"if": len(word) + 1, "not": len(word) + 1}.get(word, 1)
            self.check(word, column, names)
            self.check(f"x {word}", {"and": 6, "or": 5, "mod": 6}.get(word, 3), names)

    def test_numbers(self):
        self.assertEqual(parsed("9999"), one(9999))
        self.assertEqual(parsed("1000"), one(1000))
        self.check("10000", 1)
        self.check("x + 12345", 5)
        self.check("x + 123456789", 5)
        for text in ["00", "01", "007", "0000", "00000", "0123"]:
            self.check(text, 1)
            self.check(f"x - {text}", 5)
            self.check(f"-{text}", 2)
        self.assertEqual(parsed("0"), one(0))
        self.assertEqual(parsed("10"), one(10))
        # A number and a name, and a number that is too long and a name.
        self.check("12x", 3)
        self.check("12345x", 1)
        self.check("0x", 2)

    def test_number_of_tokens(self):
        # 49 times "+", 50 terms and one "-" in front.
        text = "-" + "+".join(["x"] * 50)
        self.assertEqual(parsed(text)[0], "+")
        self.assertEqual(len(text), 100)
        # The 101st token comes first, whatever the others are.
        self.check("-" + text, 101)
        self.check(text + " )", 102)
        self.check(text + "    !", 105)
        self.check(text + "   abcdefghi", 104)
        self.check(text + "+z+!", 101)
        self.check("+" * 101, 101)
        self.check("+" * 100, 1)
        self.check("+ " * 100, 1)
        self.check(" x" * 101, 202)
        # A character that starts no token in front of the 101st one is the first problem.
        self.check("! " + text + "x", 1)
        self.check(text[:99] + "!xx", 100)

    def test_end(self):
        self.check("", 1)
        self.check("   ", 4)
        self.check("x +", 4)
        self.check("x + ", 5)
        self.check("(x", 3)
        self.check("not", 4)
        self.check("-", 2)
        self.check("if", 3)
        self.check("if x", 5)
        self.check("if x then", 10)
        self.check("if x then y", 12)
        self.check("if x then y else", 17)
        self.check("if x then y else  ", 19)

    def test_tokens_with_which_nothing_goes_on(self):
        self.check(")", 1)
        self.check("()", 2)
        self.check("(x))", 4)
        self.check("x)", 2)
        self.check("x (y)", 3)
        self.check("x + * y", 5)
        self.check("* x", 1)
        self.check("+x", 1)
        self.check("x = y = 1", 7)
        self.check("x < y > 1", 7)
        self.check("(x = y = 1)", 8)
        self.check("not x = y = 1", 11)
        self.check("x + 1 = y * 2 != 3", 15)
        self.check("then", 1)
        self.check("if then", 4)
        self.check("if x else", 6)
        self.check("if x then y then", 13)
        self.check("if x then y else 1 else 2", 20)
        self.check("if x then y or else", 16)
        self.check("x if y", 3)
        self.check("x not y", 3)
        self.check("x and or y", 7)
        self.check("if (x then y else 1", 7)
        self.check("(if x then y) else 1", 13)

    def test_levels_of_parentheses(self):
        self.assertEqual(parsed("(" * 19 + "x" + ")" * 19), X)
        self.check("(" * 20 + "x" + ")" * 20, 21)
        self.check("(" * 20 + " x" + ")" * 20, 22)
        self.check("x + " + "(" * 20 + "x" + ")" * 20, 25)
        self.assertEqual(parsed("x + " + "(" * 19 + "x" + ")" * 19), ("+", X, X))
        self.check("(" * 25, 21)
        self.check("(" * 20, 21)
        self.check("(" * 20 + ")", 21)
        # Behind parentheses that are closed the level is the one in front of them.
        deep = "(" * 19 + "x" + ")" * 19
        self.assertEqual(parsed(f"{deep} + {deep}"), ("+", X, X))

    def test_levels_of_not(self):
        form = X
        for _ in range(19):
            form = ("not", form)
        self.assertEqual(parsed("not " * 19 + "x"), form)
        self.check("not " * 20 + "x", 81)
        self.check("x or " + "not " * 20 + "x", 86)
        self.assertEqual(parsed("x or " + "not " * 19 + "x"), ("or", X, form))

    def test_levels_of_minus(self):
        form = X
        for _ in range(19):
            form = ("neg", form)
        self.assertEqual(parsed("-" * 19 + "x"), form)
        self.assertEqual(parsed("x" + "-" * 20 + "x"), ("-", X, form))
        self.check("-" * 20 + "x", 21)
        self.check("x" + "-" * 21 + "x", 23)
        self.check("-" * 30 + "x", 21)

    def test_levels_of_if(self):
        # In each part. (20 whole ifs have 101 tokens.)
        for before, behind in [("if ", " then 1 else 2"), ("if 1 then ", " else 2"), ("if 1 then 2 else ", "")]:
            parsed(before * 19 + "x" + behind * 19)
            self.check(before * 18 + "if x then y else -1" + behind * 18,
                       len(before * 18 + "if x then y else -") + 1)
            self.check(before * 18 + "if not x", len(before * 18 + "if not ") + 1)
            self.check("if " * 19 + "if x then 1 else 2" + behind, 61)

    def test_levels_of_different_kinds(self):
        # Four levels each time: "not", "-", "(" and a part of an if.
        before = "not -(if " * 4
        behind = " then 1 else 1)" * 4
        parsed(before + "not -(1)" + behind)
        self.check(before + "not -(-1)" + behind, len(before) + 8)
        self.assertEqual(parsed("not " * 10 + "-" * 9 + "x")[0], "not")
        self.check("not " * 10 + "-" * 10 + "x", 51)
        self.check("(" * 10 + "not " * 5 + "-" * 5 + "x" + ")" * 10, 36)
        parsed("(" * 10 + "not " * 5 + "-" * 4 + "x" + ")" * 10)
        self.check("if x then " + "(" * 18 + "-x" + ")" * 18 + " else 1", 30)
        parsed("if x then " + "(" * 18 + "x" + ")" * 18 + " else 1")

    def test_binary_operators_add_no_level(self):
        parsed("(" * 19 + "1 or 2 and 3 = 4 + 5 * 6 mod 7" + ")" * 19)
        parsed("+".join(["x"] * 50))
        self.check("(" * 19 + "1 or 2 and 3 = 4 + 5 * -6" + ")" * 19, 44)

    def test_tokens_are_read_first(self):
        self.check("x + + !", 7)
        self.check(") 12345", 3)
        self.check("z abcdefghi", 3)
        self.check("( 007", 3)
        self.check("z + + 1", 1)
        self.check("x + + z", 5)
        self.check("z x", 1)
        self.check("(" * 20 + "x" + ")" * 20 + "!", 42)
        self.check("! 12345 abcdefghi", 1)
        self.check("12345 ! abcdefghi", 1)
        self.check("abcdefghi ! 12345", 1)

    def test_level_and_other_problems(self):
        self.check("(" * 20 + "z" + ")" * 20, 21)
        self.check("z + " + "(" * 20 + "x" + ")" * 20, 1)
        self.check("(" * 20 + "x) + z", 21)
        self.check("x = y = " + "(" * 20 + "x", 7)

    def test_first_token_with_which_no_expression_goes_on(self):
        rng = random.Random(81)
        tokens = (["x", "y", "n1", "0", "17"] * 3 + BINARY + ["or", "and", "not", "not", "-", "-"]
                  + ["if", "then", "else"] * 2 + ["(", ")"] * 3)
        wrong = 0
        for turn in range(6000):
            row = [rng.choice(tokens) for _ in range(rng.randint(0, 9))]
            if turn % 2 == 0:
                # A right text in which one token is another one, too many or missing.
                row = format_expression(sample(rng, 3)).replace("(", " ( ").replace(")", " ) ").replace("-", " - ")
                row = row.split()[:60]
                at = rng.randrange(len(row))
                row[at:at + rng.randint(0, 1)] = [rng.choice(tokens)] * rng.randint(0, 1)
            at = first_problem(row)
            text = " ".join(row)
            if at is None:
                parsed(text)
            else:
                wrong += 1
                column = len(" ".join(row[:at])) + (2 if 0 < at < len(row) else 1)
                self.check(text, column)
        self.assertTrue(1000 < wrong < 5500)


class Canonical(unittest.TestCase):
    def check(self, text, canonical):
        form = parsed(text)
        self.assertEqual(format_expression(form), canonical)
        self.assertEqual(parsed(canonical), form)

    def test_spaces(self):
        self.check("x+1", "x + 1")
        self.check("  x  ", "x")
        self.check("x<=1", "x <= 1")
        self.check("- - x", "--x")
        self.check("x - - - 1", "x - --1")
        self.check("not   -  x", "not -x")
        self.check("if(x)then(1)else(2)", "if x then 1 else 2")
        self.check("(x)mod(y)", "x mod y")
        self.check("not(x or y)", "not (x or y)")
        self.check("-(if x then 1 else 2)", "-(if x then 1 else 2)")
        self.check("(not x) = y", "(not x) = y")
        for sign in BINARY:
            self.check(f" x  {sign}  y ", f"x {sign} y")

    def test_numbers_and_names(self):
        for text in ["0", "9999", "n1", "x"]:
            self.check(text, text)

    def test_parentheses_that_are_not_needed(self):
        for text, canonical in [
                ("((x))", "x"), ("(x + 1) + y", "x + 1 + y"), ("(x * 1) + y", "x * 1 + y"),
                ("x + (y * 2)", "x + y * 2"), ("(-x) * y", "-x * y"), ("x * (-y)", "x * -y"),
                ("x - (-y)", "x - -y"), ("-(-x)", "--x"), ("not (not x)", "not not x"),
                ("not (x = 1)", "not x = 1"), ("(not x) and (not y)", "not x and not y"),
                ("(x and y) or (x and y)", "x and y or x and y"), ("(x = 1) and (y = 2)", "x = 1 and y = 2"),
                ("(x or y) or x", "x or y or x"), ("(x - 1) - 2", "x - 1 - 2"),
                ("(x mod 2) * 3", "x mod 2 * 3"), ("if (x = 1) then (-x) else (x + 1)", "if x = 1 then -x else x + 1"),
                ("if (if x then 1 else 2) then (if x then 1 else 2) else (if x then 1 else 2)",
                 "if if x then 1 else 2 then if x then 1 else 2 else if x then 1 else 2")]:
            self.check(text, canonical)

    def test_parentheses_that_are_needed(self):
        for text in [
                "x + (y + 1)", "x - (y - 1)", "x - (y + 1)", "x * (y * 2)", "x * (y mod 2)", "x mod (y mod 2)",
                "x or (y or 1)", "x and (y and 1)", "(x + 1) * 2", "2 * (x + 1)", "-(x * 2)", "-(x + 1)",
                "-(x = 1)", "-(not x)", "(x = 1) = 1", "x = (y = 1)", "(x < y) + 1", "not (x and y)",
                "(x or y) and 1", "x and (y or 1)", "(not x) = 1", "x = (not y)", "(not x) + 1", "x * (not y)",
                "(if x then 1 else 2) + 1", "1 + (if x then 1 else 2)", "(if x then 1 else 2) or y",
                "y or (if x then 1 else 2)", "not (if x then 1 else 2)", "-(if x then 1 else 2)"]:
            self.check(text, text)

    def test_each_pair_of_forms(self):
        inner = [("or", X, Y), ("and", X, Y), ("not", X), ("=", X, Y), ("<", X, Y), ("+", X, Y), ("-", X, Y),
                 ("*", X, Y), ("mod", X, Y), ("neg", X), ("if", X, Y, N), X, one(3)]
        forms = [(sign,) + pair for sign in BINARY for part in inner for pair in [(part, N), (N, part)]]
        forms += [(kind, part) for kind in ("not", "neg") for part in inner]
        forms += [("if", *parts) for part in inner for parts in [(part, N, N), (N, part, N), (N, N, part)]]
        for form in forms:
            self.check_needed(form)

    def check_needed(self, form):
        """The text is parsed into the same form, and not without a pair of its parentheses."""
        text = format_expression(form)
        with self.subTest(text):
            self.assertEqual(parsed(text), form)
            begins = []
            for at, sign in enumerate(text):
                if sign == "(":
                    begins.append(at)
                if sign == ")":
                    begin = begins.pop()
                    without = text[:begin] + text[begin + 1:at] + text[at + 1:]
                    try:
                        self.assertNotEqual(parsed(without), form)
                    except SyntaxProblem:
                        pass

    def test_many(self):
        rng = random.Random(82)
        checked = 0
        for _ in range(3000):
            form = sample(rng, rng.randint(1, 5))
            if len(spelled(form).replace("(", " ( ").split()) < 45:
                checked += 1
                self.check_needed(form)
        self.assertGreater(checked, 1500)

    def test_all_parentheses_leave_no_trace(self):
        rng = random.Random(83)
        for _ in range(800):
            form = sample(rng, 3)
            text = spelled(form)
            if len(text.replace("(", " ( ").replace(")", " ) ").replace("-", " - ").split()) <= 100:
                self.assertEqual(parsed(text), form)
                self.assertEqual(format_expression(parsed(text)), format_expression(form))

    def test_deep_forms(self):
        for form in [X, one(5)]:
            for kind in ["not", "neg"]:
                deep = form
                for _ in range(19):
                    deep = (kind, deep)
                self.assertEqual(parsed(format_expression(deep)), deep)
        long = X
        for _ in range(49):
            long = ("-", long, one(1))
        self.assertEqual(parsed(format_expression(long)), long)


class Values(unittest.TestCase):
    def check(self, text, value, **values):
        found = evaluate(parse_expression(text, tuple((name,) for name in values)), values)
        self.assertEqual(found, value, text)
        self.assertIs(type(found), int)

    def test_single(self):
        self.check("0", 0)
        self.check("9999", 9999)
        self.check("x", -7, x=-7)
        self.check("x", 10 ** 30, x=10 ** 30)

    def test_sums_and_products(self):
        self.check("2 + 3", 5)
        self.check("2 - 3", -1)
        self.check("2 * 3", 6)
        self.check("-3", -3)
        self.check("--3", 3)
        self.check("-0", 0)
        self.check("10 - 2 - 3", 5)
        self.check("2 + 3 * 4", 14)
        self.check("(2 + 3) * 4", 20)
        self.check("-x * y", -6, x=2, y=3)
        self.check("x - -y", 5, x=2, y=3)
        self.check("*".join(["9999"] * 50), 9999 ** 50)

    def test_mod(self):
        table = [(7, 3, 1), (-7, 3, 2), (7, -3, -2), (-7, -3, -1), (6, 3, 0), (-6, 3, 0), (6, -3, 0), (-6, -3, 0),
                 (0, 5, 0), (0, -5, 0), (2, 5, 2), (-2, 5, 3), (2, -5, -3), (-2, -5, -2), (1, 1, 0), (5, -1, 0),
                 (7, 0, 0), (-7, 0, 0), (0, 0, 0)]
        for x, y, value in table:
            self.check("x mod y", value, x=x, y=y)
            self.assertEqual(modulo(x, y), value)
        self.check("7 mod -3", -2)
        self.check("-7 mod 3", 2)
        self.check("7 mod 4 * 2", 6)
        self.check("2 * 7 mod 4", 2)
        self.check("7 mod (1 - 1)", 0)
        self.check("17 mod 10 mod 4", 3)

    def test_comparisons(self):
        table = {"=": (0, 1, 0), "!=": (1, 0, 1), "<": (1, 0, 0), "<=": (1, 1, 0), ">": (0, 0, 1), ">=": (0, 1, 1)}
        for sign, row in table.items():
            for value, pair in zip(row, [(-2, 3), (3, 3), (4, 3)]):
                self.check(f"x {sign} y", value, x=pair[0], y=pair[1])

    def test_and_or_not(self):
        for x in (-2, 0, 1, 5):
            self.check("not x", 1 if x == 0 else 0, x=x)
            self.check("not not x", 0 if x == 0 else 1, x=x)
            for y in (-1, 0, 1, 7):
                self.check("x and y", 1 if x != 0 and y != 0 else 0, x=x, y=y)
                self.check("x or y", 0 if x == 0 and y == 0 else 1, x=x, y=y)

    def test_conditions_are_values(self):
        self.check("(x > 1) + (x > 2) * 10", 11, x=3)
        self.check("(x = 3) - (not x)", 1, x=3)
        self.check("(2 and 3) + (0 or 4)", 2)

    def test_if(self):
        for x, value in [(0, 20), (1, 10), (-1, 10), (7, 10)]:
            self.check("if x then 10 else 20", value, x=x)
        self.check("if x > 2 then 1 else if x > 1 then 2 else 3", 2, x=2)
        self.check("(if x then 1 else 2) * 10 + 1", 21, x=0)
        self.check("if 0 then 7 mod 0 else 3", 3)

    def test_left_side(self):
        self.check("100 - 10 + 1 - 2", 89)
        self.check("100 mod 7 mod 2 * 5", 0)
        self.check("2 - (3 - 4)", 3)

    def test_many(self):
        rng = random.Random(84)
        for _ in range(3000):
            form = sample(rng, 4)
            values = {name[0]: rng.choice([0, 1, -1, rng.randint(-20, 20)]) for name in NAMES}
            kept = dict(values)
            expected = eval(source(form), {"modulo": modulo}, dict(values))
            found = evaluate(form, values)
            self.assertEqual(found, expected)
            self.assertIs(type(found), int)
            self.assertEqual(values, kept)

    def test_other_values_may_be_there(self):
        self.assertEqual(evaluate(X, {"x": 3, "z": 4}), 3)
        self.assertEqual(evaluate(one(3), {}), 3)


if __name__ == "__main__":
    unittest.main()

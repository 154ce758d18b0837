"""Programs held against each other: points 3 and 10 to 13 and the interface's stage 9."""

import copy
import random
import unittest

from twospeeds.compare import first_difference, same_for_ever, state_classes
from twospeeds.errors import SyntaxProblem
from twospeeds.expressions import evaluate, parse_expression
from twospeeds.machine import acted, all_states, start_state
from twospeeds.order import acts
from twospeeds.patterns import never, shows_never
from twospeeds.texts import parse_program
from walks import FRACTIONS, GOLDEN, LARGE_FRACTIONS, LARGE_ROOTS, LATE, ONE, ROOTS, beginning

LONG = 1500
FORMS = ["x + 1", "x - 1", "1 - x", "x + y", "y", "x mod 2", "if x < y then x + 1 else y", "0", "x * 2", "not x",
         "2 - x", "if x = 2 then 0 else x + 1", "x"]


def sample(rng, most=3):
    """A program of x and y at random."""
    rows = []
    for name in "xy":
        high = rng.randint(0 if name == "y" else 1, most)
        high = min(high, 2) if name == "y" else high
        rows.append(f"var {name} 0..{high} = {rng.randint(0, high)}")
    for worker in "ab":
        for name in "xy":
            if rng.random() < 0.75:
                rows.append(f"{worker} {name} := {rng.choice(FORMS)}")
    return parse_program("\n".join(rows))


def value_in(program, text, state):
    names = [variable[0] for variable in program[0]]
    return evaluate(parse_expression(text, program[0]), dict(zip(names, state)))


def values(program, text, word, state):
    """The values of an expression behind 0, 1, .. all acts of a word from a state."""
    kept = {one: value_in(program, text, one) for one in all_states(program)}
    moves = {(worker, one): acted(program, worker, one) for worker in "ab" for one in kept}
    found = [kept[state]]
    for worker in word:
        state = moves[worker, state]
        found.append(kept[state])
    return found


def numbered(one, other, text):
    """(maps, differing) for the pairs of states, by the interface's words."""
    pairs = [(start_state(one), start_state(other))]
    maps = ([], [])
    for pair in pairs:
        for row, worker in zip(maps, "ab"):
            following = (acted(one, worker, pair[0]), acted(other, worker, pair[1]))
            if following not in pairs:
                pairs.append(following)
            row.append(pairs.index(following))
    differing = [at for at, (left, right) in enumerate(pairs)
                 if value_in(one, text, left) != value_in(other, text, right)]
    return (tuple(maps[0]), tuple(maps[1])), differing


COUNT_TO_2 = parse_program("var x 0..2 = 0\na x := x + 1\nb x := 0")
COUNT_TO_1 = parse_program("var x 0..1 = 0\na x := x + 1\nb x := 0")


class Difference(unittest.TestCase):
    def test_document(self):
        self.assertEqual(first_difference(GOLDEN, COUNT_TO_2, COUNT_TO_1, "x"), 4)
        self.assertIsNone(first_difference((1, 0, 0, 2), COUNT_TO_2, COUNT_TO_1, "x"))

    def test_walks(self):
        rng = random.Random(171)
        found = {True: 0, False: 0}
        for _ in range(250):
            ratio = rng.choice(ROOTS + FRACTIONS)
            one = sample(rng)
            other = sample(rng) if rng.random() < 0.5 else parse_program(
                "\n".join([f"var x 0..{one[0][0][2]} = {one[0][0][3]}", f"var y 0..{one[0][1][2]} = {one[0][1][3]}",
                           "a x := " + rng.choice(FORMS), "b y := " + rng.choice(FORMS)]))
            text = rng.choice(["x", "y", "x + y", "x > 0", "x mod 2", "1"])
            word = beginning(ratio, LONG)
            rows = [values(program, text, word, start_state(program)) for program in (one, other)]
            expected = next((at for at, (left, right) in enumerate(zip(*rows)) if left != right), None)
            self.assertEqual(first_difference(ratio, one, other, text), expected)
            certificate = same_for_ever(ratio, one, other, text)
            self.assertEqual(certificate is None, expected is not None)
            maps, differing = numbered(one, other, text)
            self.assertEqual(certificate, never(ratio, maps, 0, differing))
            if certificate is not None:
                self.assertTrue(shows_never(ratio, maps, 0, differing, certificate))
            found[expected is None] += 1
        self.assertGreater(min(found.values()), 50)

    def test_at_once(self):
        other = parse_program("var x 0..2 = 1\na x := x + 1\nb x := 0")
        for ratio in ROOTS + FRACTIONS:
            self.assertEqual(first_difference(ratio, COUNT_TO_2, other, "x"), 0)
            self.assertIsNone(same_for_ever(ratio, COUNT_TO_2, other, "x"))

    def test_the_values_are_compared_and_not_only_whether_they_hold(self):
        one = parse_program("var x 1..2 = 1")
        other = parse_program("var x 1..2 = 2")
        self.assertEqual(first_difference(GOLDEN, one, other, "x"), 0)
        self.assertIsNone(first_difference(GOLDEN, one, other, "x > 0"))

    def test_other_variables(self):
        # The same counter modulo 3, once with more variables and in another order.
        one = parse_program("var x 0..2 = 0\na x := (x + 1) mod 3")
        other = parse_program("var z -5..-4 = -5\nvar x 0..2 = 0\na x := if x = 2 then 0 else x + 1\nb z := -9 - z")
        for ratio in ROOTS + FRACTIONS + LARGE_ROOTS + LARGE_FRACTIONS + [LATE]:
            self.assertIsNone(first_difference(ratio, one, other, "x"))
            self.assertIsNone(first_difference(ratio, other, one, "x * x"))
            self.assertIsNotNone(same_for_ever(ratio, one, other, "x"))
        third = parse_program("var x 0..3 = 0\na x := x + 1")
        self.assertEqual(first_difference(ONE, one, third, "x"), 5)

    def test_late(self):
        # The twelfth a leads to 0 in the one and to 11 in the other.
        one = parse_program("var x 0..11 = 0\na x := (x + 1) mod 12")
        other = parse_program("var x 0..11 = 0\na x := x + 1")
        for ratio in ROOTS + FRACTIONS[:3] + LARGE_FRACTIONS[2:4]:
            found = first_difference(ratio, one, other, "x")
            word = acts(ratio, 2000)
            if word.count("a") >= 12:
                self.assertEqual(word[:found].count("a"), 12)
                self.assertEqual(word[found - 1], "a")
            else:
                self.assertGreater(found, 2000)
        self.assertEqual(first_difference((1, 0, 0, 10 ** 60), one, other, "x"), 12 * (10 ** 60 + 1) - 1)

    def test_problems(self):
        # The text is wrong for both, for the first one alone, and for the second one alone.
        one = parse_program("var x 0..1 = 0\nvar y 0..1 = 0")
        other = parse_program("var z 0..1 = 0\nvar x 0..1 = 0")
        for function in (first_difference, same_for_ever):
            for text, column in [("", 1), ("x +", 4), ("z", 1), ("x = z", 5), ("x = y", 5), ("y", 1), ("y + z", 5),
                                 ("z + y", 1), ("x + q", 5), ("x # y", 3), ("(" * 20 + "x", 21), ("x\n", 2)]:
                with self.subTest(text):
                    with self.assertRaises(SyntaxProblem) as caught:
                        function(GOLDEN, one, other, text)
                    self.assertEqual((caught.exception.line, caught.exception.column), (1, column))
            self.assertEqual(first_difference(GOLDEN, one, other, "x"), None)


class SameForEver(unittest.TestCase):
    def test_known(self):
        # With golden two a's stand side by side; with 1/2 none do.
        self.assertIsNone(same_for_ever(GOLDEN, COUNT_TO_2, COUNT_TO_1, "x"))
        # Pair 0 is (0, 0), 1 is (1, 1), 2 is (2, 1); the round is b a b.
        self.assertEqual(same_for_ever((1, 0, 0, 2), COUNT_TO_2, COUNT_TO_1, "x"), (0, (0,), ()))
        # b b a b ..
        self.assertEqual(same_for_ever((-1, 1, 5, 2), COUNT_TO_2, COUNT_TO_1, "x"), (1, (0,), (1,)))

    def test_numbers_of_the_pairs(self):
        # Behind the start an a leads to x = 2 and a b to x = 1: so the pairs are not in ascending order.
        program = parse_program("var x 0..3 = 0\na x := 2\nb x := 1")
        self.assertEqual(same_for_ever(GOLDEN, program, program, "x"), (1, (2,), (1,)))
        swapped = parse_program("var x 0..3 = 0\na x := if x = 0 then 3 else 2\nb x := if x = 3 then 1 else 0")
        self.assertEqual(same_for_ever(GOLDEN, swapped, swapped, "x"),
                         never(GOLDEN, *first_two(numbered(swapped, swapped, "x"))))

    def test_no_rules(self):
        program = parse_program("var x 0..1 = 0")
        self.assertEqual(same_for_ever(GOLDEN, program, program, "x"), (1, (0,), (0,)))
        self.assertEqual(same_for_ever(ONE, program, program, "x"), (0, (0,), ()))

    def test_many_pairs(self):
        # 12 and 11 states make 132 pairs.
        one = parse_program("var x 0..11 = 0\na x := (x + 1) mod 12\nb x := (x + 5) mod 12")
        other = parse_program("var x 0..10 = 0\na x := (x + 1) mod 11\nb x := (x + 5) mod 11")
        for ratio in ROOTS[:5] + [LATE]:
            found = same_for_ever(ratio, one, other, "x * 0")
            maps, differing = numbered(one, other, "x * 0")
            self.assertEqual(len(maps[0]), 132)
            self.assertEqual(found, (1, tuple(range(132)), tuple(range(132))))
            self.assertEqual(differing, [])
            self.assertIsNotNone(first_difference(ratio, one, other, "x"))


def first_two(parts):
    maps, differing = parts
    return maps, 0, differing


class Classes(unittest.TestCase):
    def test_document(self):
        program = parse_program("var x 0..1 = 0\nvar y 0..1 = 0\na x := 1 - x\nb y := 1 - y")
        self.assertEqual(state_classes(ONE, program, "x"), [[(0, 0), (0, 1)], [(1, 0), (1, 1)]])

    def test_pairs_of_states(self):
        rng = random.Random(172)
        sizes = {}
        for _ in range(120):
            ratio, program = rng.choice(ROOTS + FRACTIONS), sample(rng)
            text = rng.choice(["x", "y", "x + y", "x > 0", "x mod 2", "1", "x = 2 and y = 0"])
            word = beginning(ratio, 400)
            rows = {state: values(program, text, word, state) for state in all_states(program)}
            expected = []
            for state in all_states(program):
                for members in expected:
                    if rows[members[0]] == rows[state]:
                        members.append(state)
                        break
                else:
                    expected.append([state])
            found = state_classes(ratio, program, text)
            self.assertEqual(found, expected)
            self.assertEqual(sorted(state for members in found for state in members), all_states(program))
            sizes[len(found)] = True
        self.assertGreater(len(sizes), 4)

    def test_order(self):
        # 0 and 3 are alike, and 1 and 2; the lists are ordered by their first states.
        program = parse_program("var x 0..3 = 0")
        for ratio in (GOLDEN, ONE, LATE):
            self.assertEqual(state_classes(ratio, program, "x = 1 or x = 2"), [[(0,), (3,)], [(1,), (2,)]])
            self.assertEqual(state_classes(ratio, program, "x mod 3"), [[(0,), (3,)], [(1,)], [(2,)]])
            self.assertEqual(state_classes(ratio, program, "x"), [[(0,)], [(1,)], [(2,)], [(3,)]])
            self.assertEqual(state_classes(ratio, program, "5"), [[(0,), (1,), (2,), (3,)]])

    def test_one_state(self):
        for ratio in (GOLDEN, ONE):
            self.assertEqual(state_classes(ratio, parse_program("var x 3..3 = 3\na x := 0"), "x"), [[(3,)]])

    def test_the_ratio_counts(self):
        # 1 becomes 2 by the first act if it is an a, 0 does not.
        program = parse_program("var x 0..2 = 0\na x := x + 1\nb x := 0")
        self.assertEqual(state_classes(GOLDEN, program, "x = 2"), [[(0,)], [(1,)], [(2,)]])
        self.assertEqual(state_classes((1, 0, 0, 2), program, "x = 2"), [[(0,), (1,)], [(2,)]])
        self.assertEqual(state_classes(ONE, program, "x = 2"), [[(0,)], [(1,)], [(2,)]])

    def test_large_ratios(self):
        # All states become alike behind the first b; it comes behind 10^60 a's.
        program = parse_program("var x 0..3 = 0\na x := (x + 1) mod 4\nb x := 0")
        for ratio in LARGE_ROOTS + LARGE_FRACTIONS + [LATE]:
            self.assertEqual(state_classes(ratio, program, "x mod 2"),
                             [[(0,), (2,)], [(1,), (3,)]])

    def test_many_states(self):
        program = parse_program("var x 0..11 = 0\na x := (x + 1) mod 12\nb x := (x + 7) mod 12")
        for ratio in (GOLDEN, ONE, LATE):
            self.assertEqual(state_classes(ratio, program, "x mod 6"),
                             [[(value,), (value + 6,)] for value in range(6)])
            self.assertEqual(len(state_classes(ratio, program, "x")), 12)

    def test_problems(self):
        program = parse_program("var x 0..1 = 0")
        for text, column in [("", 1), ("y", 1), ("x +", 4), ("x # y", 3)]:
            with self.assertRaises(SyntaxProblem) as caught:
                state_classes(GOLDEN, program, text)
            self.assertEqual((caught.exception.line, caught.exception.column), (1, column))

    def test_new_each_time(self):
        program = parse_program("var x 0..3 = 0")
        found = state_classes(GOLDEN, program, "x mod 2")
        self.assertEqual([type(part) for part in (found, found[0], found[0][0])], [list, list, tuple])
        found[0].clear()
        found.pop()
        self.assertEqual(state_classes(GOLDEN, program, "x mod 2"), [[(0,), (2,)], [(1,), (3,)]])


class Arguments(unittest.TestCase):
    def test_arguments_stay(self):
        one, other = copy.deepcopy((COUNT_TO_2, COUNT_TO_1))
        first_difference(GOLDEN, one, other, "x"), same_for_ever(GOLDEN, one, other, "x")
        state_classes(GOLDEN, one, "x")
        self.assertEqual((one, other), (COUNT_TO_2, COUNT_TO_1))


if __name__ == "__main__":
    unittest.main()

"""States and acts: points 10 and 11, and twospeeds/machine.py of the interface's stage 5."""

import copy
import random
import unittest
from itertools import product

from twospeeds.errors import SyntaxProblem
from twospeeds.expressions import evaluate, parse_expression
from twospeeds.machine import acted, all_states, index_of, maps_of, start_state, states_where
from twospeeds.texts import parse_program

TEXTS = [
    "var x 0..1 = 0\na x := 1 - x",
    "var x 0..2 = 0\nvar y 0..1 = 1\na x := x + y\na y := x mod 2",
    "var x -1..1 = -1\nvar y 5..6 = 6\na x := x + 1\nb x := -x\nb y := 11 - y",
    "var x 3..3 = 3\na x := 100\nb x := -100",
    "var p 0..1 = 0\nvar q 0..0 = 0\nvar r -1..1 = 1\nvar s 4..5 = 4\na r := s - 5\nb p := r\nb s := p + 4\na q := s",
    "var x -6..5 = 2\na x := x * 2\nb x := x mod -4",
    "var x 0..11 = 7",
]
PROGRAMS = [parse_program(text) for text in TEXTS]


def ranges(program):
    return [range(low, high + 1) for _, low, high, _ in program[0]]


def sample(rng):
    """A program at random, of up to three variables."""
    names = ["x", "y", "z"][:rng.randint(1, 3)]
    sizes = rng.choice({1: [(12,), (5,)], 2: [(3, 4), (2, 6), (3, 1)], 3: [(2, 2, 3), (3, 2, 2)]}[len(names)])
    rows = []
    for name, size in zip(names, sizes):
        low = rng.randint(-6, 6)
        rows.append(f"var {name} {low}..{low + size - 1} = {low + rng.randrange(size)}")
    for worker in "ab":
        for name in names:
            if rng.random() < 0.7:
                one, other = rng.choice(names), rng.choice(names)
                rows.append(f"{worker} {name} := " + rng.choice([
                    f"{one} + {other}", f"{one} - {other}", f"{one} * {other} - 1", f"-{one}", f"{one} mod 3",
                    f"if {one} < {other} then {one} + 1 else {other} - 1", "0", f"not {one}"]))
    return parse_program("\n".join(rows))


class States(unittest.TestCase):
    def test_known(self):
        self.assertEqual(all_states(PROGRAMS[0]), [(0,), (1,)])
        self.assertEqual(all_states(PROGRAMS[1]), [(0, 0), (0, 1), (1, 0), (1, 1), (2, 0), (2, 1)])
        self.assertEqual(all_states(PROGRAMS[2]), [(-1, 5), (-1, 6), (0, 5), (0, 6), (1, 5), (1, 6)])
        self.assertEqual(all_states(PROGRAMS[3]), [(3,)])
        self.assertEqual(all_states(PROGRAMS[6]), [(value,) for value in range(12)])

    def test_all_and_ascending(self):
        for program in PROGRAMS:
            found = all_states(program)
            self.assertIs(type(found), list)
            self.assertEqual(found, sorted(product(*ranges(program))))
            self.assertEqual(found, sorted(found))
            self.assertTrue(all(type(state) is tuple for state in found))

    def test_new_each_time(self):
        first = all_states(PROGRAMS[1])
        kept = list(first)
        first.clear()
        first.append("other")
        self.assertEqual(all_states(PROGRAMS[1]), kept)
        self.assertIsNot(all_states(PROGRAMS[1]), all_states(PROGRAMS[1]))

    def test_start(self):
        self.assertEqual([start_state(program) for program in PROGRAMS],
                         [(0,), (0, 1), (-1, 6), (3,), (0, 0, 1, 4), (2,), (7,)])
        self.assertIs(type(start_state(PROGRAMS[0])), tuple)

    def test_index(self):
        for program in PROGRAMS:
            states = all_states(program)
            self.assertEqual([index_of(program, state) for state in states], list(range(len(states))))
        self.assertEqual(index_of(PROGRAMS[2], (1, 5)), 4)
        self.assertEqual(index_of(PROGRAMS[4], (1, 0, -1, 4)), 6)
        self.assertIs(type(index_of(PROGRAMS[0], (1,))), int)

    def test_index_of_the_start(self):
        for program in PROGRAMS:
            self.assertEqual(all_states(program)[index_of(program, start_state(program))], start_state(program))


class Acted(unittest.TestCase):
    def check(self, text, worker, state, expected):
        program = parse_program(text)
        found = acted(program, worker, state)
        self.assertEqual(found, expected)
        self.assertIs(type(found), tuple)
        self.assertTrue(all(type(value) is int for value in found))
        self.assertIn(found, all_states(program))

    def test_each_worker_has_its_own_rules(self):
        text = "var x 0..3 = 0\nvar y 0..2 = 0\na x := 3\nb y := 2"
        self.check(text, "a", (1, 1), (3, 1))
        self.check(text, "b", (1, 1), (1, 2))

    def test_without_a_rule_values_stay(self):
        text = "var x 0..3 = 0\nvar y 0..2 = 0\na x := y"
        for x in range(4):
            for y in range(3):
                self.check(text, "b", (x, y), (x, y))
                self.check(text, "a", (x, y), (y, y))
        self.check("var x 0..11 = 7", "a", (4,), (4,))

    def test_bounds_from_both_sides(self):
        text = "var x -2..3 = 0\na x := x + 4\nb x := x - 4"
        self.assertEqual([acted(parse_program(text), "a", (x,)) for x in range(-2, 4)],
                         [(2,), (3,), (3,), (3,), (3,), (3,)])
        self.assertEqual([acted(parse_program(text), "b", (x,)) for x in range(-2, 4)],
                         [(-2,), (-2,), (-2,), (-2,), (-2,), (-1,)])
        self.check("var x 5..7 = 5\na x := 0", "a", (6,), (5,))
        self.check("var x 5..7 = 5\na x := 9999 * 9999", "a", (6,), (7,))
        self.check("var x -7..-5 = -6\na x := 0", "a", (-6,), (-5,))
        self.check("var x -7..-5 = -6\na x := -9999 * 9999", "a", (-6,), (-7,))
        self.check("var x 3..3 = 3\na x := 4\nb x := 2", "a", (3,), (3,))
        self.check("var x 3..3 = 3\na x := 4\nb x := 2", "b", (3,), (3,))
        # Each variable has its own range.
        self.check("var x 0..1 = 0\nvar y 0..5 = 0\na x := 4\na y := 4", "a", (0, 0), (1, 4))

    def test_at_the_bounds(self):
        text = "var x -2..3 = 0\na x := {}"
        for value in range(-5, 7):
            self.check(text.format(value), "a", (0,), (min(max(value, -2), 3),))

    def test_all_rules_take_the_values_before_the_act(self):
        swap = "var x 0..2 = 0\nvar y 0..2 = 2\na x := y\na y := x\nb y := x\nb x := y"
        for x in range(3):
            for y in range(3):
                self.check(swap, "a", (x, y), (y, x))
                self.check(swap, "b", (x, y), (y, x))
        turn = "var x 0..1 = 0\nvar y 0..1 = 0\nvar z 0..1 = 1\na z := x\na x := y\na y := z"
        self.check(turn, "a", (1, 0, 0), (0, 0, 1))
        self.check(turn, "a", (0, 1, 0), (1, 0, 0))
        self.check(turn, "a", (0, 0, 1), (0, 1, 0))
        # Not the value that the rule in front gives, and not the one before it is bounded either.
        text = "var x 0..1 = 0\nvar y 0..5 = 0\na x := x + 5\na y := x"
        self.check(text, "a", (0, 3), (1, 0))
        self.check(text, "a", (1, 3), (1, 1))

    def test_conditions_are_values(self):
        text = "var x 0..3 = 0\nvar y 0..2 = 0\na x := x < 2\na y := not x\nb x := x and y\nb y := x or y"
        self.check(text, "a", (0, 2), (1, 1))
        self.check(text, "a", (3, 2), (0, 0))
        self.check(text, "b", (3, 2), (1, 1))
        self.check(text, "b", (3, 0), (0, 1))

    def test_random_programs(self):
        rng = random.Random(101)
        for _ in range(200):
            program = sample(rng)
            names = [variable[0] for variable in program[0]]
            for worker, rules in (("a", dict(program[1])), ("b", dict(program[2]))):
                for state in all_states(program):
                    values = dict(zip(names, state))
                    expected = []
                    for name, low, high, _ in program[0]:
                        value = evaluate(rules[name], values) if name in rules else values[name]
                        # The nearest value of the range.
                        expected.append(min(range(low, high + 1), key=lambda one: abs(one - value)))
                    self.assertEqual(acted(program, worker, state), tuple(expected))


class Maps(unittest.TestCase):
    def test_known(self):
        self.assertEqual(maps_of(PROGRAMS[0]), ((1, 0), (0, 1)))
        self.assertEqual(maps_of(PROGRAMS[3]), ((0,), (0,)))
        self.assertEqual(maps_of(PROGRAMS[6]), (tuple(range(12)), tuple(range(12))))
        # (0, 0) (0, 1) (1, 0) (1, 1) (2, 0) (2, 1)
        self.assertEqual(maps_of(PROGRAMS[1]), ((0, 2, 3, 5, 4, 4), (0, 1, 2, 3, 4, 5)))
        self.assertEqual(maps_of(parse_program("var x 0..2 = 0\na x := x + 1\nb x := 0")), ((1, 2, 2), (0, 0, 0)))

    def test_each_state(self):
        rng = random.Random(102)
        for program in PROGRAMS + [sample(rng) for _ in range(100)]:
            found = maps_of(program)
            self.assertEqual([type(part) for part in (found,) + found], [tuple] * 3)
            states = all_states(program)
            for worker, row in zip("ab", found):
                self.assertEqual(len(row), len(states))
                self.assertEqual([states[index] for index in row],
                                 [acted(program, worker, state) for state in states])

    def test_kinds_of_values(self):
        for program in PROGRAMS:
            for row in maps_of(program):
                self.assertEqual({type(index) for index in row}, {int})


class Where(unittest.TestCase):
    def test_known(self):
        self.assertEqual(states_where(PROGRAMS[1], "x = y"), [0, 3])
        self.assertEqual(states_where(PROGRAMS[1], "1"), [0, 1, 2, 3, 4, 5])
        self.assertEqual(states_where(PROGRAMS[1], "0"), [])
        self.assertEqual(states_where(PROGRAMS[1], "x"), [2, 3, 4, 5])
        # Any value but 0 counts, also one below 0.
        self.assertEqual(states_where(PROGRAMS[2], "x"), [0, 1, 4, 5])
        self.assertEqual(states_where(PROGRAMS[2], "x - 1"), [0, 1, 2, 3])
        self.assertEqual(states_where(PROGRAMS[2], "y - 5"), [1, 3, 5])
        self.assertEqual(states_where(PROGRAMS[6], "x mod 5 = 2 or x > 10"), [2, 7, 11])

    def test_each_state(self):
        for program, text in [(PROGRAMS[4], "p or r = s - 5"), (PROGRAMS[4], "if p then q else r"),
                              (PROGRAMS[5], "x mod 3"), (PROGRAMS[2], "x * (y - 5)")]:
            found = states_where(program, text)
            self.assertIs(type(found), list)
            form = parse_expression(text, program[0])
            names = [variable[0] for variable in program[0]]
            expected = [at for at, state in enumerate(sorted(product(*ranges(program))))
                        if evaluate(form, dict(zip(names, state))) != 0]
            self.assertEqual(found, expected)
            self.assertEqual(found, sorted(found))

    def test_new_each_time(self):
        first = states_where(PROGRAMS[1], "1")
        first.append(9)
        self.assertEqual(states_where(PROGRAMS[1], "1"), [0, 1, 2, 3, 4, 5])

    def test_problems(self):
        for text, column in [("", 1), ("x +", 4), ("z", 1), ("x = z", 5), ("x # y", 3), ("x\n", 2), ("x = = y", 5),
                             ("x := 1", 3), ("abcdefghi", 1), ("x + 007", 5), ("(" * 20 + "x", 21),
                             ("x " * 101, 201)]:
            with self.subTest(text):
                with self.assertRaises(SyntaxProblem) as caught:
                    states_where(PROGRAMS[1], text)
                self.assertEqual((caught.exception.line, caught.exception.column), (1, column))

    def test_the_names_are_those_of_the_program(self):
        self.assertEqual(states_where(PROGRAMS[4], "p and s = 5 and r = 0"), [9])
        with self.assertRaises(SyntaxProblem):
            states_where(PROGRAMS[0], "y")


class Arguments(unittest.TestCase):
    def test_arguments_stay(self):
        for program in PROGRAMS:
            kept = copy.deepcopy(program)
            state = start_state(program)
            kept_state = copy.deepcopy(state)
            all_states(program), maps_of(program), index_of(program, state), states_where(program, "1")
            acted(program, "a", state), acted(program, "b", state)
            self.assertEqual((program, state), (kept, kept_state))
            self.assertEqual(program, parse_program(TEXTS[PROGRAMS.index(program)]))


if __name__ == "__main__":
    unittest.main()

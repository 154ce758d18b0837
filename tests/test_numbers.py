"""Numbers: point 4, point 2 and the interface's heading of stage 1."""

import copy
import random
import unittest
from fractions import Fraction
from math import gcd, isqrt

from twospeeds.errors import InvalidNumber, OtherRoot, ZeroDivisor
from twospeeds.numbers import (compare, floor, is_number, minus, number, opposite,
                               over, plus, sign, times)

GOLDEN = (1, 1, 5, 2)
ZERO = (0, 0, 0, 1)
ONE = (1, 0, 0, 1)
BIG = 10 ** 400


def divisor_square(d):
    """The greatest f with f * f a divisor of d, the slow way."""
    return max(f for f in range(1, isqrt(d) + 1) if d % (f * f) == 0)


def plain(p, q, d, s):
    """The value as (whole part, part at the root, d without squares): an own way to compare by."""
    root = divisor_square(d) if d else 0
    if d == root * root:
        return Fraction(p + q * root, s), Fraction(0), 0
    if q == 0:
        return Fraction(p, s), Fraction(0), 0
    return Fraction(p, s), Fraction(q * root, s), d // (root * root)


def made(a, b, d):
    """The number a + b * root d for fractions a and b."""
    if b == 0:
        return (a.numerator, 0, 0, a.denominator)
    common = a.denominator * b.denominator // gcd(a.denominator, b.denominator)
    return (int(a * common), int(b * common), d, common)


def scaled(one, digits):
    """An integer that is less than 2 away from the number times 10 ** digits."""
    p, q, d, s = one
    scale = 10 ** digits
    root = isqrt(q * q * d * scale * scale)
    return (p * scale + (root if q > 0 else -root)) // s


def sample(rng, d):
    """A number with the root of d or none."""
    size = rng.choice([3, 20, 10 ** 30])
    q = rng.choice([0, rng.randint(-size, size)])
    return number(rng.randint(-size, size), q, d, rng.choice([1, 2, rng.randint(1, size)]))


class Canonical(unittest.TestCase):
    def check(self, p, q, d, s, expected):
        found = number(p, q, d, s)
        self.assertEqual(found, expected)
        self.assertIs(type(found), tuple)
        self.assertTrue(all(type(part) is int for part in found))
        self.assertTrue(is_number(found))

    def test_examples(self):
        self.check(2, 4, 12, -6, (-1, -4, 3, 3))
        self.check(3, 1, 4, 2, (5, 0, 0, 2))

    def test_canonical_parts_stay(self):
        for one in [ZERO, ONE, GOLDEN, (-7, 0, 0, 5), (0, -3, 2, 1), (4, 2, 6, 5), (0, 1, 2, 6)]:
            self.check(*one, one)

    def test_common_divisors(self):
        self.check(4, 6, 5, 2, (2, 3, 5, 1))
        self.check(6, 9, 2, 15, (2, 3, 2, 5))
        self.check(6, 9, 2, 14, (6, 9, 2, 14))
        self.check(0, 6, 2, 4, (0, 3, 2, 2))
        self.check(10, 0, 7, 4, (5, 0, 0, 2))

    def test_sign_of_s(self):
        self.check(1, 1, 5, -2, (-1, -1, 5, 2))
        self.check(-3, 0, 0, -6, (1, 0, 0, 2))
        self.check(0, -2, 3, -2, (0, 1, 3, 1))

    def test_zero(self):
        for d in [0, 1, 2, 4, 10 ** 10]:
            self.check(0, 0, d, 7, ZERO)
            self.check(0, 0, d, -7, ZERO)
        self.check(0, 5, 0, 3, ZERO)
        self.check(-5, 5, 1, 3, ZERO)
        self.check(6, -3, 4, -11, ZERO)

    def test_d_of_0_and_1(self):
        self.check(3, 9, 0, 6, (1, 0, 0, 2))
        self.check(3, 9, 1, 6, (2, 0, 0, 1))
        self.check(3, -9, 1, 6, (-1, 0, 0, 1))

    def test_d_with_square_divisors(self):
        self.check(0, 1, 8, 1, (0, 2, 2, 1))
        self.check(1, 1, 12, 1, (1, 2, 3, 1))
        self.check(2, 1, 12, 2, (1, 1, 3, 1))
        self.check(0, 1, 72, 1, (0, 6, 2, 1))
        self.check(0, 1, 27, 1, (0, 3, 3, 1))
        self.check(0, 1, 2 * 3 ** 2 * 7 ** 2, 1, (0, 21, 2, 1))
        self.check(0, 1, 2 ** 31, 1, (0, 2 ** 15, 2, 1))

    def test_d_that_is_a_square(self):
        for root in [2, 3, 4, 6, 7, 30, 97, 99999, 99991, 10 ** 5]:
            self.check(1, -2, root * root, 1, (1 - 2 * root, 0, 0, 1))

    def test_all_small_d(self):
        for d in range(0, 700):
            whole, part, rest = plain(3, 2, d, 1)
            self.check(3, 2, d, 1, made(whole, part, rest))

    def test_large_d(self):
        self.check(0, 1, 10 ** 10, 1, (10 ** 5, 0, 0, 1))
        self.check(0, 1, 9999999967, 1, (0, 1, 9999999967, 1))
        self.check(0, 1, 10 ** 10 - 1, 1, (0, 3, 1111111111, 1))
        # A square of a prime beyond the cube root, alone and times another factor.
        self.check(0, 1, 70657 ** 2 * 2, 1, (0, 70657, 2, 1))
        self.check(0, 1, 57731 ** 2 * 3, 1, (0, 57731, 3, 1))
        self.check(0, 1, 2237 ** 2 * 1999, 1, (0, 2237, 1999, 1))
        self.check(0, 1, 2153 ** 3, 1, (0, 2153, 2153, 1))
        self.check(0, 1, 99989 * 99991, 1, (0, 1, 99989 * 99991, 1))

    def test_random_d(self):
        rng = random.Random(1)
        for _ in range(60):
            square = rng.randint(1, 3000)
            d = square * square * rng.randint(1, 10 ** 10 // square ** 2)
            root = divisor_square(d)
            rest = d // root ** 2
            if rest > 1:
                self.check(0, 1, d, 1, (0, root, rest, 1))
            else:
                self.check(0, 1, d, 1, (root, 0, 0, 1))

    def test_large_parts(self):
        self.check(6 * BIG, -4 * BIG, 18, 2 * BIG, (3, -6, 2, 1))
        self.check(BIG + 1, BIG, 2, -BIG, (-BIG - 1, -BIG, 2, BIG))
        self.check(-BIG, 0, 0, -3 * BIG, (1, 0, 0, 3))

    def test_random_parts(self):
        rng = random.Random(2)
        for _ in range(400):
            p, q, s = [rng.randint(-60, 60) for _ in range(3)]
            d = rng.randint(0, 60)
            if s:
                self.check(p, q, d, s, made(*plain(p, q, d, s)))

    def test_invalid(self):
        for p, q, d, s in [(1, 1, -1, 1), (1, 0, -1, 1), (0, 0, -4, 2), (1, 1, 2, 0), (0, 0, 0, 0),
                           (1, 0, 0, 0), (1, 1, -5, 0), (1, 1, -10 ** 10, 1)]:
            with self.subTest((p, q, d, s)), self.assertRaises(InvalidNumber):
                number(p, q, d, s)


class IsNumber(unittest.TestCase):
    def check(self, thing, expected):
        before = copy.deepcopy(thing)
        self.assertIs(is_number(thing), expected, thing)
        self.assertEqual(repr(thing), repr(before))

    def test_numbers(self):
        for thing in [ZERO, ONE, GOLDEN, (-1, 0, 0, 1), (7, 0, 0, 5), (0, 1, 2, 1), (0, -1, 3, 7),
                      (2, 2, 5, 1), (2, 4, 6, 3), (0, 1, 9999999967, 1), (BIG, 1, 2, BIG),
                      (3, 0, 0, BIG), (0, 2, 10, 3), (-4, 6, 30, 5), (0, 1, 2, 4)]:
            self.check(thing, True)

    def test_tuples_that_are_not_canonical(self):
        for thing in [(2, 2, 5, 2), (2, 0, 0, 2), (0, 0, 0, 2), (0, 2, 2, 2), (3, 6, 2, 9), (BIG, BIG, 2, BIG),
                      (1, 1, 5, -2), (1, 1, 5, 0), (0, 0, 0, 0), (0, 0, 0, -1), (1, 0, 0, -1), (1, 0, 0, 0),
                      (1, 0, 5, 1), (0, 0, 2, 1), (1, 0, 1, 1), (1, 0, -1, 1),
                      (1, 1, 0, 1), (1, 1, 1, 1), (1, 1, -1, 1), (1, 1, -5, 1),
                      (1, 1, 4, 1), (1, 1, 8, 1), (1, 1, 9, 1), (1, 1, 12, 1), (1, 1, 18, 1), (1, 1, 25, 1),
                      (1, 1, 10 ** 10, 1), (1, 1, 99991 ** 2, 1), (1, 1, 57731 ** 2 * 3, 1),
                      (1, 1, 2237 ** 2 * 1999, 1), (1, 1, 10 ** 10 - 1, 1)]:
            self.check(thing, False)

    def test_bools(self):
        for thing in [(True, 0, 0, 1), (1, False, 0, 1), (1, 0, False, 1), (1, 0, 0, True), (False, 0, 0, 1),
                      (True, True, 5, 2), (1, True, 5, 2)]:
            self.check(thing, False)

    def test_other_lengths(self):
        for thing in [(), (1,), (1, 0, 0), (1, 0, 0, 1, 0), (1, 0, 0, 1, 1), (0,) * 1000]:
            self.check(thing, False)

    def test_other_objects(self):
        for thing in [[1, 0, 0, 1], [], None, True, False, 0, 1, -1, "", "1001", (0, 0, 0, "1"),
                      ("1", "0", "0", "1"), {}, {0: 1, 1: 0, 2: 0, 3: 1}, {"p": 1}, (1, 0, 0, None),
                      (None, 0, 0, 1), ([1], 0, 0, 1), (1, (0,), 0, 1), ((1, 0, 0, 1),), [(1, 0, 0, 1)],
                      ((1, 0, 0, 1),) * 4, (1, 0, {}, 1), (1, {}, 0, 1), ({"a": [1]}, {}, [], ()),
                      ("", "", "", ""), (1, 1, "5", 2)]:
            self.check(thing, False)

    def test_deep_object(self):
        thing = ONE
        for _ in range(28):
            thing = [thing, {"a": thing}] if len(repr(thing)) < 500 else [thing]
        self.check(thing, False)
        self.check((thing, 0, 0, 1), False)


class Arithmetic(unittest.TestCase):
    def test_examples(self):
        self.assertEqual(plus(GOLDEN, ONE), (3, 1, 5, 2))
        self.assertEqual(over(ONE, GOLDEN), (-1, 1, 5, 2))

    def test_plain_fractions(self):
        half, third = (1, 0, 0, 2), (1, 0, 0, 3)
        self.assertEqual(plus(half, third), (5, 0, 0, 6))
        self.assertEqual(minus(half, third), (1, 0, 0, 6))
        self.assertEqual(minus(third, half), (-1, 0, 0, 6))
        self.assertEqual(times(half, third), (1, 0, 0, 6))
        self.assertEqual(over(half, third), (3, 0, 0, 2))
        self.assertEqual(over(half, (-1, 0, 0, 3)), (-3, 0, 0, 2))
        self.assertEqual(opposite(half), (-1, 0, 0, 2))

    def test_results_that_are_whole_or_zero(self):
        root = (0, 1, 2, 1)
        self.assertEqual(times(root, root), (2, 0, 0, 1))
        self.assertEqual(over(root, root), ONE)
        self.assertEqual(minus(root, root), ZERO)
        self.assertEqual(plus(root, opposite(root)), ZERO)
        self.assertEqual(plus((1, 1, 2, 1), (1, -1, 2, 1)), (2, 0, 0, 1))
        self.assertEqual(times(GOLDEN, (1, -1, 5, 2)), (-1, 0, 0, 1))
        self.assertEqual(over((0, 3, 2, 1), (0, 1, 2, 2)), (6, 0, 0, 1))
        self.assertEqual(plus((1, 0, 0, 2), (1, 0, 0, 2)), ONE)

    def test_zero(self):
        for one in [ONE, GOLDEN, (-7, 0, 0, 5), ZERO, (0, -2, 3, 7)]:
            self.assertEqual(plus(one, ZERO), one)
            self.assertEqual(plus(ZERO, one), one)
            self.assertEqual(minus(one, ZERO), one)
            self.assertEqual(minus(ZERO, one), opposite(one))
            self.assertEqual(times(one, ZERO), ZERO)
            self.assertEqual(times(ZERO, one), ZERO)
            if one != ZERO:
                self.assertEqual(over(ZERO, one), ZERO)
        self.assertEqual(opposite(ZERO), ZERO)

    def test_opposite(self):
        self.assertEqual(opposite(GOLDEN), (-1, -1, 5, 2))
        self.assertEqual(opposite((3, -2, 7, 5)), (-3, 2, 7, 5))

    def test_zero_divisor(self):
        for one in [ZERO, ONE, GOLDEN, (-2, 0, 0, 3)]:
            with self.assertRaises(ZeroDivisor):
                over(one, ZERO)

    def test_other_root(self):
        for act in [plus, minus, times, over]:
            for first, second in [(GOLDEN, (0, 1, 2, 1)), ((0, 1, 2, 1), GOLDEN), ((0, 1, 2, 1), (0, 1, 6, 1)),
                                  ((3, -1, 2, 5), (3, -1, 3, 5))]:
                with self.subTest((act, first, second)), self.assertRaises(OtherRoot):
                    act(first, second)

    def test_one_root_and_none_is_no_error(self):
        two = (2, 0, 0, 1)
        self.assertEqual(plus(two, GOLDEN), (5, 1, 5, 2))
        self.assertEqual(minus(two, GOLDEN), (3, -1, 5, 2))
        self.assertEqual(minus(GOLDEN, two), (-3, 1, 5, 2))
        self.assertEqual(times(two, GOLDEN), (1, 1, 5, 1))
        self.assertEqual(times(GOLDEN, two), (1, 1, 5, 1))
        self.assertEqual(over(two, GOLDEN), (-1, 1, 5, 1))
        self.assertEqual(over(GOLDEN, two), (1, 1, 5, 4))

    def test_random(self):
        rng = random.Random(3)
        for _ in range(1500):
            d = rng.choice([2, 3, 5, 6, 30, 9999999967])
            first, second = sample(rng, d), sample(rng, d)
            a, b = Fraction(first[0], first[3]), Fraction(first[1], first[3])
            c, e = Fraction(second[0], second[3]), Fraction(second[1], second[3])
            found = [plus(first, second), minus(first, second), times(first, second)]
            wanted = [made(a + c, b + e, d), made(a - c, b - e, d), made(a * c + b * e * d, a * e + b * c, d)]
            norm = c * c - e * e * d
            if norm != 0:
                found.append(over(first, second))
                wanted.append(made((a * c - b * e * d) / norm, (b * c - a * e) / norm, d))
            self.assertEqual(found, wanted)
            self.assertTrue(all(is_number(one) for one in found))

    def test_very_large_parts(self):
        first = (BIG, 1, 2, BIG + 1)
        self.assertEqual(minus(plus(first, ONE), ONE), first)
        self.assertEqual(over(times(first, (3, BIG, 2, 7)), (3, BIG, 2, 7)), first)


class SignAndFloor(unittest.TestCase):
    def test_sign(self):
        for one, expected in [(ZERO, 0), (ONE, 1), ((-1, 0, 0, 1), -1), ((1, 0, 0, 9), 1), ((-1, 0, 0, 9), -1),
                              (GOLDEN, 1), ((-1, -1, 5, 2), -1), ((1, -1, 5, 2), -1), ((-1, 1, 5, 2), 1),
                              ((0, 1, 2, 1), 1), ((0, -1, 2, 1), -1), ((3, -1, 5, 2), 1), ((-3, 1, 5, 2), -1),
                              ((7, -5, 2, 1), -1), ((-7, 5, 2, 1), 1), ((3, -2, 2, 1), 1), ((-3, 2, 2, 1), -1),
                              ((BIG, 0, 0, 1), 1), ((-BIG, 1, 2, 1), -1), ((-1, BIG, 2, BIG + 1), 1)]:
            self.assertEqual(sign(one), expected, one)
            self.assertIs(type(sign(one)), int)

    def test_sign_of_very_small_numbers(self):
        p, q = 1, 1
        for k in range(600):
            # p - q * root 2 is above 0 for every other convergent of root 2.
            self.assertEqual(sign((p, -q, 2, 1)), 1 if k % 2 else -1)
            self.assertEqual(sign((-p, q, 2, 1)), -1 if k % 2 else 1)
            p, q = p + 2 * q, p + q

    def test_floor(self):
        for one, expected in [(ZERO, 0), (ONE, 1), ((-1, 0, 0, 1), -1), ((7, 0, 0, 5), 1), ((-7, 0, 0, 5), -2),
                              ((-1, 0, 0, 9), -1), ((8, 0, 0, 9), 0), (GOLDEN, 1), ((-1, -1, 5, 2), -2),
                              ((0, 1, 2, 1), 1), ((0, -1, 2, 1), -2), ((0, 1, 3, 2), 0), ((0, -1, 3, 2), -1),
                              ((1, -1, 5, 2), -1), ((3, -1, 5, 2), 0), ((-3, 1, 5, 2), -1), ((0, 10, 2, 1), 14),
                              ((0, -10, 2, 1), -15), ((0, 10, 2, 3), 4), ((1, -10, 2, 3), -5)]:
            self.assertEqual(floor(one), expected, one)
            self.assertIs(type(floor(one)), int)

    def test_floor_beside_integers(self):
        p, q = 1, 1
        for k in range(300):
            # The number is root 2 * q - p, very near 0, moved by 17.
            self.assertEqual(floor((17 - p, q, 2, 1)), 17 if k % 2 == 0 else 16)
            self.assertEqual(floor((17 + p, -q, 2, 1)), 16 if k % 2 == 0 else 17)
            p, q = p + 2 * q, p + q

    def test_floor_of_very_large_parts(self):
        self.assertEqual(floor((BIG, 0, 0, 1)), BIG)
        self.assertEqual(floor((0, BIG, 2, 1)), isqrt(2 * BIG * BIG))
        self.assertEqual(floor((0, -BIG, 2, 1)), -isqrt(2 * BIG * BIG) - 1)
        self.assertEqual(floor((-1, 0, 0, BIG)), -1)
        self.assertEqual(floor((BIG, -1, 2, BIG + 1)), 0)

    def test_random(self):
        rng = random.Random(4)
        for _ in range(1000):
            one = sample(rng, rng.choice([2, 3, 7, 9999999967]))
            low = floor(one)
            self.assertIn(sign(minus(one, (low, 0, 0, 1))), (0, 1))
            self.assertEqual(sign(minus(one, (low + 1, 0, 0, 1))), -1)
            near = scaled(one, 60)
            if abs(near) > 2:
                self.assertEqual(sign(one), 1 if near > 0 else -1)
                self.assertLessEqual(abs(low - near // 10 ** 60), 1)


class Compare(unittest.TestCase):
    def check(self, first, second, expected):
        self.assertEqual(compare(first, second), expected, (first, second))
        self.assertEqual(compare(second, first), -expected, (second, first))
        self.assertIs(type(compare(first, second)), int)

    def test_whole_numbers_and_fractions(self):
        self.check(ZERO, ONE, -1)
        self.check(ONE, ONE, 0)
        self.check((-2, 0, 0, 1), (-1, 0, 0, 1), -1)
        self.check((1, 0, 0, 3), (1, 0, 0, 2), -1)
        self.check((-1, 0, 0, 3), (-1, 0, 0, 2), 1)
        self.check((7, 0, 0, 5), (7, 0, 0, 5), 0)
        self.check((BIG, 0, 0, BIG + 1), (BIG - 1, 0, 0, BIG), 1)

    def test_one_root(self):
        self.check(GOLDEN, (0, 1, 3, 1), -1)
        self.check(GOLDEN, GOLDEN, 0)
        self.check(GOLDEN, (1, -1, 5, 2), 1)
        self.check(GOLDEN, (1, 0, 0, 1), 1)
        self.check(GOLDEN, (2, 0, 0, 1), -1)
        self.check((0, 2, 2, 3), (0, 1, 2, 1), -1)
        self.check((0, -2, 2, 3), (0, -1, 2, 1), 1)
        self.check((5, 1, 2, 1), (1, 4, 2, 1), -1)
        self.check((-1, -1, 5, 2), ZERO, -1)

    def test_different_roots(self):
        self.check((0, 1, 2, 1), (0, 1, 3, 1), -1)
        self.check((0, -1, 2, 1), (0, -1, 3, 1), 1)
        self.check((0, -1, 2, 1), (0, 1, 3, 1), -1)
        self.check((0, 3, 2, 1), (0, 2, 3, 1), 1)
        self.check((1, 1, 2, 1), (0, 1, 6, 1), -1)
        self.check((-5, 1, 2, 1), (-5, 1, 3, 1), -1)
        self.check((-5, -1, 2, 1), (-5, -1, 3, 1), 1)
        self.check((10, 1, 2, 1), (-10, -1, 3, 1), 1)
        # Here two of the parts are equal in size.
        self.check((0, 1, 2, 1), (1, 1, 3, 1), -1)
        self.check((1, 1, 2, 1), (1, 1, 3, 1), -1)

    def test_different_roots_very_near_each_other(self):
        for d, other in [(2, 3), (5, 7), (9999999967, 9999999943), (6, 2)]:
            for digits in [5, 30, 300]:
                scale = 10 ** digits
                # Integers with (low + root other) / scale just below root d, and low + 1 just above.
                fine = 10 ** 40
                exact = isqrt(d * (scale * fine) ** 2) - isqrt(other * fine * fine)
                low = exact // fine
                self.check((0, 1, d, 1), (low, 1, other, scale), 1)
                self.check((0, 1, d, 1), (low + 1, 1, other, scale), -1)
                self.check((0, -1, d, 1), (-low, -1, other, scale), -1)
                self.check((0, -1, d, 1), (-low - 1, -1, other, scale), 1)
                self.check((low, 1, other, scale), (low + 1, 1, other, scale), -1)

    def test_fraction_very_near_a_root(self):
        p, q = 1, 1
        for k in range(300):
            self.check((p, 0, 0, q), (0, 1, 2, 1), 1 if k % 2 else -1)
            p, q = p + 2 * q, p + q

    def test_random(self):
        rng = random.Random(5)
        for _ in range(3000):
            first = sample(rng, rng.choice([2, 3, 5, 6]))
            second = sample(rng, rng.choice([2, 3, 5, 6]))
            gap = scaled(first, 300) - scaled(second, 300)
            if first == second:
                self.check(first, second, 0)
            else:
                self.assertGreater(abs(gap), 4)
                self.check(first, second, 1 if gap > 0 else -1)


if __name__ == "__main__":
    unittest.main()

"""Quotients: point 5, point 2 and the interface's heading of stage 2."""

import random
import unittest
from fractions import Fraction
from math import gcd

from twospeeds.errors import TooMany
from twospeeds.numbers import compare, floor, is_number, minus, number, over
from twospeeds.quotients import (convergents, expansion, number_of, quotient_at,
                                 quotients)

GOLDEN = (1, 1, 5, 2)
ONE = (1, 0, 0, 1)
ZERO = (0, 0, 0, 1)

# Ratios and their expansions.
KNOWN = [
    # Whole numbers and fractions.
    ((1, 0, 0, 1), ((1,), ())),
    ((2, 0, 0, 1), ((2,), ())),
    ((10 ** 50, 0, 0, 1), ((10 ** 50,), ())),
    ((7, 0, 0, 5), ((1, 2, 2), ())),
    ((3, 0, 0, 2), ((1, 2), ())),
    ((415, 0, 0, 93), ((4, 2, 6, 7), ())),
    # Fractions below 1.
    ((1, 0, 0, 2), ((0, 2), ())),
    ((5, 0, 0, 7), ((0, 1, 2, 2), ())),
    ((1, 0, 0, 10 ** 50), ((0, 10 ** 50), ())),
    # Ratios with a root whose repetition starts at once.
    ((1, 1, 5, 2), ((), (1,))),
    ((1, 1, 2, 1), ((), (2,))),
    ((1, 1, 3, 1), ((), (2, 1))),
    ((1, 1, 3, 2), ((), (1, 2))),
    ((10, 1, 101, 1), ((), (20,))),
    # Ratios with a root whose repetition starts later.
    ((0, 1, 2, 1), ((1,), (2,))),
    ((0, 1, 3, 1), ((1,), (1, 2))),
    ((0, 1, 7, 1), ((2,), (1, 1, 1, 4))),
    ((0, 1, 14, 1), ((3,), (1, 2, 1, 6))),
    ((0, 1, 19, 1), ((4,), (2, 1, 3, 1, 2, 8))),
    ((3, 1, 5, 2), ((2,), (1,))),
    # Ratios with a root below 1.
    ((-1, 1, 5, 2), ((0,), (1,))),
    ((3, -1, 5, 2), ((0, 2), (1,))),
    ((0, 1, 2, 2), ((0, 1), (2,))),
    ((-1, 1, 2, 1), ((0,), (2,))),
    ((2, -1, 3, 1), ((0, 3), (1, 2))),
    # A q below 0.
    ((2, -1, 2, 1), ((0, 1, 1), (2,))),
    ((5, -1, 5, 2), ((1, 2), (1,))),
]


def slowly(ratio, count):
    """The first count quotients, by the words of point 5."""
    found = []
    while len(found) < count:
        found.append(floor(ratio))
        rest = minus(ratio, (found[-1], 0, 0, 1))
        if rest == ZERO:
            break
        ratio = over(ONE, rest)
    return found


def fraction_of(row):
    """The fraction with these quotients."""
    value = Fraction(row[-1])
    for part in reversed(row[:-1]):
        value = part + 1 / value
    return value


def ratio_of(value):
    return (value.numerator, 0, 0, value.denominator)


def sample(rng):
    """A ratio, with a root or without, of small or large parts."""
    while True:
        size = rng.choice([6, 50, 10 ** 20])
        q = rng.choice([0, 1, rng.randint(-size, size)])
        s = rng.choice([1, 2, rng.randint(1, size)])
        one = number(rng.randint(-size, size), q, rng.randint(2, rng.choice([20, 900])), s)
        if compare(one, ZERO) == 1:
            return one


def shortest(first, again):
    """Whether no shorter parts stand for the same quotients."""
    if len(first) > 0 and len(again) > 0 and first[-1] == again[-1]:
        return False
    for part in range(1, len(again)):
        if len(again) % part == 0 and again[:part] * (len(again) // part) == again:
            return False
    return True


class Expansion(unittest.TestCase):
    def test_known(self):
        for ratio, parts in KNOWN:
            with self.subTest(ratio):
                self.assertTrue(is_number(ratio))
                self.assertEqual(expansion(ratio), parts)

    def test_kinds_of_values(self):
        for ratio, _ in KNOWN:
            found = expansion(ratio)
            self.assertIs(type(found), tuple)
            self.assertEqual([type(part) for part in found], [tuple, tuple])
            self.assertTrue(all(type(one) is int for part in found for one in part))

    def test_random(self):
        rng = random.Random(11)
        repeating = 0
        for _ in range(600):
            ratio = sample(rng)
            try:
                first, again = expansion(ratio)
            except TooMany:
                continue
            self.assertTrue(shortest(first, again), ratio)
            self.assertEqual(again == (), ratio[1] == 0)
            many = min(len(first) + 2 * len(again), 60)
            row = first + again * (many // max(1, len(again)) + 1)
            self.assertEqual(slowly(ratio, many), list(row[:many]), ratio)
            repeating += len(again) > 1
        self.assertGreater(repeating, 200)

    def test_expansion_of_large_d(self):
        # root (n * n + 1) has the quotients n and then 2 n for ever.
        self.assertEqual(expansion((0, 1, 99998 ** 2 + 1, 1)), ((99998,), (199996,)))

    def test_exactly_400_quotients_of_a_fraction(self):
        row = (3,) + (1, 2) * 199 + (2,)
        self.assertEqual(len(row), 400)
        self.assertEqual(expansion(ratio_of(fraction_of(row))), (row, ()))
        row = (0,) + (5,) * 399
        self.assertEqual(expansion(ratio_of(fraction_of(row))), (row, ()))

    def test_more_than_400_quotients_of_a_fraction(self):
        for many in [401, 402, 1000]:
            ratio = ratio_of(fraction_of((3,) + (2,) * (many - 1)))
            with self.assertRaises(TooMany) as caught:
                expansion(ratio)
            self.assertEqual(caught.exception.limit, 400)

    def test_exactly_400_quotients_with_a_repetition_of_few(self):
        for many, again in [(399, (1,)), (398, (1, 2)), (396, (1, 2, 3, 4))]:
            first = (0,) + (7,) * (many - 1)
            ratio = number_of((first, again))
            self.assertEqual(expansion(ratio), (first, again))

    def test_more_than_400_quotients_with_a_repetition_of_few(self):
        for many, again in [(400, (1,)), (399, (1, 2)), (397, (1, 2, 3, 4)), (900, (1, 2))]:
            ratio = number_of(((0,) + (7,) * (many - 1), again))
            with self.assertRaises(TooMany) as caught:
                expansion(ratio)
            self.assertEqual(caught.exception.limit, 400)

    def test_exactly_400_quotients_of_a_root(self):
        # The quotients of root d are one and then 399 that repeat.
        first, again = expansion(number(0, 1, 68581, 1))
        self.assertEqual((len(first), len(again)), (1, 399))
        self.assertEqual(slowly((0, 1, 68581, 1), 410), list((first + again * 2)[:410]))
        # With its integer part added, the quotients of root d repeat from the start.
        first, again = expansion(number(181, 1, 32839, 1))
        self.assertEqual((len(first), len(again)), (0, 400))
        self.assertEqual(slowly((181, 1, 32839, 1), 410), list((again * 2)[:410]))

    def test_more_than_400_quotients_of_a_root(self):
        for ratio in [(0, 1, 32839, 1), (274, 1, 75553, 1), (0, 1, 75553, 1), (0, 1, 9999999967, 1)]:
            self.assertTrue(is_number(ratio))
            with self.assertRaises(TooMany) as caught:
                expansion(ratio)
            self.assertEqual(caught.exception.limit, 400)


class Quotients(unittest.TestCase):
    def test_known(self):
        for ratio, (first, again) in KNOWN:
            for count in [0, 1, 2, 3, 4, 5, 20]:
                row = (first + again * 20)[:count]
                self.assertEqual(quotients(ratio, count), list(row))

    def test_count_of_0(self):
        self.assertEqual(quotients(GOLDEN, 0), [])
        self.assertEqual(quotients((7, 0, 0, 5), 0), [])

    def test_fewer_than_count(self):
        self.assertEqual(quotients((7, 0, 0, 5), 2), [1, 2])
        self.assertEqual(quotients((7, 0, 0, 5), 3), [1, 2, 2])
        self.assertEqual(quotients((7, 0, 0, 5), 4), [1, 2, 2])
        self.assertEqual(quotients((7, 0, 0, 5), 1000), [1, 2, 2])

    def test_count_of_1000(self):
        self.assertEqual(quotients(GOLDEN, 1000), [1] * 1000)
        self.assertEqual(quotients((0, 1, 3, 1), 1000), [1] + [1, 2] * 499 + [1])

    def test_more_than_400_quotients_are_no_hindrance(self):
        row = [3] + [2] * 998 + [5]
        ratio = ratio_of(fraction_of(row))
        self.assertEqual(quotients(ratio, 1000), row)
        self.assertEqual(quotients(ratio, 401), row[:401])
        ratio = number_of((tuple(row), (1, 2)))
        self.assertEqual(quotients(ratio, 1000), row)
        with self.assertRaises(TooMany):
            expansion((0, 1, 9999999967, 1))
        self.assertEqual(quotients((0, 1, 9999999967, 1), 300), slowly((0, 1, 9999999967, 1), 300))

    def test_very_large_parts(self):
        for ratio in [number(10 ** 500 + 7, 3 ** 700, 11, 7 ** 400), number(10 ** 300, -1, 3, 10 ** 299),
                      number(2 ** 4000 + 1, 0, 0, 3 ** 2000)]:
            self.assertEqual(quotients(ratio, 150), slowly(ratio, 150))

    def test_each_list_is_new(self):
        for ratio in [GOLDEN, (7, 0, 0, 5)]:
            found = quotients(ratio, 3)
            self.assertIs(type(found), list)
            found.append(0)
            self.assertEqual(len(quotients(ratio, 3)), 3)


class QuotientAt(unittest.TestCase):
    def test_in_front_of_the_repetition(self):
        parts = ((4, 5, 6), (7, 8))
        self.assertEqual([quotient_at(parts, k) for k in range(3)], [4, 5, 6])

    def test_within_and_behind_one_repetition(self):
        parts = ((4, 5, 6), (7, 8))
        self.assertEqual([quotient_at(parts, k) for k in range(3, 9)], [7, 8, 7, 8, 7, 8])
        self.assertEqual(quotient_at(parts, 10 ** 40), 8)
        self.assertEqual(quotient_at(parts, 10 ** 40 + 1), 7)

    def test_repetition_from_the_start(self):
        self.assertEqual([quotient_at(((), (1, 2, 3)), k) for k in range(7)], [1, 2, 3, 1, 2, 3, 1])

    def test_behind_the_end(self):
        parts = ((1, 2, 2), ())
        self.assertEqual([quotient_at(parts, k) for k in range(5)], [1, 2, 2, None, None])
        self.assertIsNone(quotient_at(parts, 10 ** 40))

    def test_first_quotient_of_0(self):
        self.assertEqual(quotient_at(((0, 2), ()), 0), 0)
        self.assertEqual(quotient_at(((0,), (1,)), 0), 0)

    def test_agrees_with_quotients(self):
        for ratio, parts in KNOWN:
            row = quotients(ratio, 30)
            for k in range(30):
                self.assertEqual(quotient_at(parts, k), row[k] if k < len(row) else None)


class NumberOf(unittest.TestCase):
    def test_known(self):
        for ratio, parts in KNOWN:
            if len(parts[1]) <= 4:
                with self.subTest(parts):
                    self.assertEqual(number_of(parts), ratio)

    def test_parts_that_are_not_the_shortest(self):
        self.assertEqual(number_of(((1, 1, 1), ())), (3, 0, 0, 2))
        self.assertEqual(number_of(((1, 1), (1, 1))), GOLDEN)
        self.assertEqual(number_of(((1, 2, 2), (2, 2))), (0, 1, 2, 1))

    def test_largest_repetitions(self):
        for again in [(20,), (20, 19), (20, 20, 19), (19, 20, 20, 20), (19, 19, 19, 17), (20, 19, 19, 18), (1, 20, 20, 20)]:
            for first in [(), (0,), (5, 3)]:
                ratio = number_of((first, again))
                self.assertTrue(is_number(ratio))
                row = first + again * 30
                self.assertEqual(slowly(ratio, 30), list(row[:30]))

    def test_random_repetitions(self):
        rng = random.Random(12)
        for _ in range(400):
            again = tuple(rng.randint(1, 20) for _ in range(rng.randint(1, 4)))
            first = tuple(rng.randint(1, 50) for _ in range(rng.randint(0, 8)))
            if first and rng.randint(0, 1):
                first = (0,) + first[1:]
            ratio = number_of((first, again))
            self.assertTrue(is_number(ratio))
            self.assertEqual(compare(ratio, ZERO), 1)
            row = first + again * 20
            self.assertEqual(quotients(ratio, 20), list(row[:20]))
            if shortest(first, again):
                self.assertEqual(expansion(ratio), (first, again))

    def test_random_fractions(self):
        rng = random.Random(13)
        for _ in range(400):
            row = [rng.randint(0, 9)] + [rng.randint(1, 9) for _ in range(rng.randint(0, 30))]
            row.append(rng.randint(2, 9))
            ratio = number_of((tuple(row), ()))
            self.assertEqual(ratio, ratio_of(fraction_of(row)))
            self.assertEqual(expansion(ratio), (tuple(row), ()))

    def test_expansion_and_back(self):
        rng = random.Random(14)
        met = 0
        for _ in range(600):
            ratio = sample(rng)
            try:
                parts = expansion(ratio)
            except TooMany:
                continue
            if len(parts[1]) <= 4:
                met += 1
                self.assertEqual(number_of(parts), ratio)
        self.assertGreater(met, 100)

    def test_many_quotients_in_front(self):
        first = (0,) + tuple(range(1, 380))
        self.assertEqual(expansion(number_of((first, (2, 1)))), (first, (2, 1)))
        self.assertEqual(expansion(number_of((first, ()))), (first, ()))
        first = tuple(range(1, 1001))
        self.assertEqual(quotients(number_of((first, (20, 1, 20, 1))), 1000), list(first))


class Convergents(unittest.TestCase):
    def test_known(self):
        self.assertEqual(convergents(GOLDEN, 4), [(1, 1), (2, 1), (3, 2), (5, 3)])
        self.assertEqual(convergents((7, 0, 0, 5), 3), [(1, 1), (3, 2), (7, 5)])
        self.assertEqual(convergents((5, 0, 0, 7), 4), [(0, 1), (1, 1), (2, 3), (5, 7)])
        self.assertEqual(convergents((0, 1, 2, 2), 4), [(0, 1), (1, 1), (2, 3), (5, 7)])
        self.assertEqual(convergents((4, 0, 0, 1), 5), [(4, 1)])

    def test_fewer_where_the_quotients_end(self):
        self.assertEqual(convergents((7, 0, 0, 5), 2), [(1, 1), (3, 2)])
        self.assertEqual(convergents((7, 0, 0, 5), 1000), [(1, 1), (3, 2), (7, 5)])

    def test_count_of_0(self):
        self.assertEqual(convergents(GOLDEN, 0), [])
        self.assertEqual(convergents((7, 0, 0, 5), 0), [])

    def test_count_of_1000(self):
        found = convergents(GOLDEN, 1000)
        self.assertEqual(len(found), 1000)
        top, bottom = 1, 1
        for pair in found:
            self.assertEqual(pair, (top, bottom))
            top, bottom = top + bottom, top

    def test_more_than_400_quotients(self):
        value = fraction_of([3] + [2] * 700)
        found = convergents(ratio_of(value), 1000)
        self.assertEqual(len(found), 701)
        self.assertEqual(found[-1], (value.numerator, value.denominator))

    def test_random(self):
        rng = random.Random(15)
        for _ in range(200):
            ratio = sample(rng)
            row = slowly(ratio, 25)
            found = convergents(ratio, 25)
            self.assertEqual(len(found), len(row))
            for k, (top, bottom) in enumerate(found):
                self.assertEqual(Fraction(top, bottom), fraction_of(row[:k + 1]))
                self.assertGreater(bottom, 0)
                self.assertEqual(gcd(top, bottom), 1)

    def test_kinds_of_values(self):
        for ratio in [GOLDEN, (7, 0, 0, 5)]:
            found = convergents(ratio, 3)
            self.assertIs(type(found), list)
            self.assertTrue(all(type(pair) is tuple and len(pair) == 2 for pair in found))
            found.append(0)
            self.assertEqual(len(convergents(ratio, 3)), 3)


if __name__ == "__main__":
    unittest.main()

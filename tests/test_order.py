"""The order of the acts: point 6, point 2 and the interface's heading of stage 3."""

import copy
import random
import unittest
from itertools import groupby
from math import isqrt

from twospeeds.errors import TooMany
from twospeeds.numbers import over
from twospeeds.order import act_at, acts, counts, digits, lengths, place_of, standard
from twospeeds.quotients import expansion, number_of, quotients
from walks import GOLDEN, ONE, a_first, merged, sample_ratio, words

HUGE = 10 ** 40

# The last ratio of each pair is 1 divided by the first one.
PAIRS = [
    (GOLDEN, (-1, 1, 5, 2)),
    ((0, 1, 2, 1), (0, 1, 2, 2)),
    ((1, 1, 3, 1), (-1, 1, 3, 2)),
    ((2, -1, 2, 1), (2, 1, 2, 2)),
    ((7, 3, 11, 13), (-91, 39, 11, 50)),
    ((3, 0, 0, 2), (2, 0, 0, 3)),
    ((7, 0, 0, 5), (5, 0, 0, 7)),
    ((144, 0, 0, 89), (89, 0, 0, 144)),
    ((2, 0, 0, 1), (1, 0, 0, 2)),
    ((5, 0, 0, 1), (1, 0, 0, 5)),
    ((1999, 0, 0, 1), (1, 0, 0, 1999)),
    ((2000, 0, 0, 1), (1, 0, 0, 2000)),
    ((10 ** 60, 0, 0, 1), (1, 0, 0, 10 ** 60)),
    ((10 ** 60, 1, 2, 1), over(ONE, (10 ** 60, 1, 2, 1))),
    ((10 ** 40 + 1, 0, 0, 10 ** 40), (10 ** 40, 0, 0, 10 ** 40 + 1)),
    ((10 ** 300, 10 ** 299 + 1, 7, 10 ** 300 + 3), over(ONE, (10 ** 300, 10 ** 299 + 1, 7, 10 ** 300 + 3))),
]
RATIOS = [ONE] + [ratio for pair in PAIRS for ratio in pair]
ROOTS = [ratio for ratio in RATIOS if ratio[1] != 0]
# Below 1, so with a first quotient of 0.
SLOW = [(-1, 1, 5, 2), (0, 1, 2, 2), (2, -1, 2, 1), (-1, 1, 3, 2), (3, -1, 5, 2), (-31, 1, 1000, 1),
        number_of(((0, 7), (1, 2))), number_of(((0, 1, 1), (3,))), number_of(((0, 2500), (1,)))]


class Comparison(unittest.TestCase):
    """The tests' own comparison of times, by values that are known."""

    def test_fractions(self):
        for p in range(1, 6):
            for s in range(1, 6):
                for one in range(0, 12):
                    for other in range(0, 12):
                        self.assertEqual(a_first((p, 0, 0, s), one, other), one * s <= other * p)

    def test_roots(self):
        for one in range(0, 60):
            for other in range(0, 60):
                # The floor of other * root 2.
                self.assertEqual(a_first((0, 1, 2, 1), one, other), one <= isqrt(2 * other * other))
                # The floor of other * (2 - root 2).
                below = 0 if other == 0 else 2 * other - isqrt(2 * other * other) - 1
                self.assertEqual(a_first((2, -1, 2, 1), one, other), one <= below)

    def test_pairs(self):
        for ratio, inverse in PAIRS:
            self.assertEqual(over(ONE, ratio), inverse)


class Acts(unittest.TestCase):
    def test_known(self):
        self.assertEqual(acts(GOLDEN, 8), "abaababa")
        self.assertEqual(acts((1, 0, 0, 2), 6), "babbab")
        self.assertEqual(acts((0, 1, 2, 1), 12), "ababaababaab")
        self.assertEqual(acts((0, 1, 2, 2), 6), "bababb")
        self.assertEqual(acts((-1, 1, 5, 2), 8), "babbabab")

    def test_at_the_same_time_a_is_first(self):
        self.assertEqual(acts(ONE, 9), "ababababa")
        self.assertEqual(acts((2, 0, 0, 1), 9), "aabaabaab")
        self.assertEqual(acts((1, 0, 0, 2), 9), "babbabbab")
        self.assertEqual(acts((1, 0, 0, 5), 12), "bbbbabbbbbab")
        self.assertEqual(acts((3, 0, 0, 2), 10), "abaababaab")
        self.assertEqual(acts((2, 0, 0, 3), 10), "bababbabab")

    def test_times(self):
        for ratio in RATIOS:
            with self.subTest(ratio):
                self.assertEqual(acts(ratio, 2000), merged(ratio, 2000))

    def test_random_times(self):
        rng = random.Random(61)
        for turn in range(120):
            ratio = sample_ratio(rng, turn % 2 == 0)
            with self.subTest(ratio):
                self.assertEqual(acts(ratio, 150), merged(ratio, 150))

    def test_small_counts(self):
        for ratio in RATIOS:
            word = acts(ratio, 40)
            for count in range(40):
                self.assertEqual(acts(ratio, count), word[:count])

    def test_no_acts(self):
        for ratio in RATIOS:
            self.assertEqual(acts(ratio, 0), "")
            self.assertEqual(counts(ratio, 0), (0, 0))

    def test_very_large_and_very_small(self):
        self.assertEqual(acts((10 ** 60, 0, 0, 1), 2000), "a" * 2000)
        self.assertEqual(acts((1, 0, 0, 10 ** 60), 2000), "b" * 2000)
        self.assertEqual(acts((1999, 0, 0, 1), 2000), "a" * 1999 + "b")
        self.assertEqual(acts((1, 0, 0, 2000), 2000), "b" * 1999 + "a")
        self.assertEqual(acts((2000, 0, 0, 1), 2000), "a" * 2000)

    def test_somewhat_more_than_the_limit(self):
        self.assertEqual(acts(GOLDEN, 2100), merged(GOLDEN, 2100))


class Together(unittest.TestCase):
    """acts, act_at, counts and place_of, held against each other."""

    def test_one_after_the_other(self):
        for ratio in RATIOS:
            word = merged(ratio, 300)
            done = {"a": 0, "b": 0}
            for place, worker in enumerate(word, start=1):
                done[worker] += 1
                self.assertEqual(act_at(ratio, place), worker)
                self.assertEqual(counts(ratio, place), (done["a"], done["b"]))
                self.assertEqual(place_of(ratio, worker, done[worker]), place)

    def test_at_2000(self):
        for ratio in RATIOS:
            word = acts(ratio, 2000)
            self.assertEqual(counts(ratio, 2000), (word.count("a"), word.count("b")))
            self.assertEqual(act_at(ratio, 2000), word[-1])

    def check_counts(self, ratio, count):
        many_a, many_b = counts(ratio, count)
        self.assertEqual(many_a + many_b, count)
        self.assertTrue(many_a >= 0 and many_b >= 0)
        # The last a comes before the b behind these acts, and the last b before the a behind them.
        if many_a > 0:
            self.assertTrue(a_first(ratio, many_a, many_b + 1))
        if many_b > 0:
            self.assertFalse(a_first(ratio, many_a + 1, many_b))

    def check_place(self, ratio, worker, index):
        place = place_of(ratio, worker, index)
        self.assertEqual(act_at(ratio, place), worker)
        which = 0 if worker == "a" else 1
        self.assertEqual(counts(ratio, place)[which], index)
        self.assertEqual(counts(ratio, place - 1)[which], index - 1)

    def test_up_to_the_limit(self):
        rng = random.Random(62)
        for ratio in RATIOS + SLOW:
            with self.subTest(ratio):
                for digit_count in [1, 3, 10, 20, 39]:
                    many = rng.randint(1, 10 ** digit_count)
                    for count in [many, HUGE - many, HUGE]:
                        self.check_counts(ratio, count)
                        self.check_place(ratio, "a", count)
                        self.check_place(ratio, "b", count)
                        worker = act_at(ratio, count)
                        index = counts(ratio, count)[0 if worker == "a" else 1]
                        self.assertEqual(place_of(ratio, worker, index), count)

    def test_random_ratios(self):
        rng = random.Random(63)
        for turn in range(300):
            ratio = sample_ratio(rng, turn % 2 == 0)
            count = rng.randint(1, rng.choice([10, 1000, HUGE]))
            with self.subTest(ratio=ratio, count=count):
                self.check_counts(ratio, count)
                self.check_place(ratio, "a", count)
                self.check_place(ratio, "b", count)

    def test_equal_times_far_out(self):
        # At the time 3 * k both act: a is number 7 * k, b number 3 * k.
        for k in [1, 2, 10 ** 20, HUGE // 10]:
            self.assertEqual(place_of((7, 0, 0, 3), "a", 7 * k), 10 * k - 1)
            self.assertEqual(place_of((7, 0, 0, 3), "b", 3 * k), 10 * k)
            self.assertEqual(counts((7, 0, 0, 3), 10 * k), (7 * k, 3 * k))
            self.assertEqual(counts((7, 0, 0, 3), 10 * k - 1), (7 * k, 3 * k - 1))

    def test_kinds_of_values(self):
        for ratio in [GOLDEN, (3, 0, 0, 2)]:
            found = counts(ratio, 100)
            self.assertIs(type(found), tuple)
            self.assertEqual([type(part) for part in found], [int, int])
            self.assertIs(type(place_of(ratio, "a", 5)), int)
            self.assertIs(type(acts(ratio, 5)), str)


class Standard(unittest.TestCase):
    def test_known(self):
        self.assertEqual([standard(GOLDEN, level) for level in range(5)],
                         ["a", "ab", "aba", "abaab", "abaababa"])
        self.assertEqual(lengths(GOLDEN, 5), [1, 2, 3, 5, 8, 13])
        self.assertEqual([standard((0, 1, 2, 1), level) for level in range(4)],
                         ["a", "ab", "ababa", "ababaababaab"])

    def test_first_quotient_of_0(self):
        # The quotients of (root 2) / 2 are 0, 1, 2, 2, ..
        self.assertEqual([standard((0, 1, 2, 2), level) for level in range(5)],
                         ["a", "b", "ba", "babab", "bababbababba"])
        self.assertEqual(lengths((0, 1, 2, 2), 4), [1, 1, 2, 5, 12])

    def test_level_0_and_1(self):
        for ratio in ROOTS + SLOW:
            self.assertEqual(lengths(ratio, 0), [1])
            self.assertEqual(standard(ratio, 0), "a")
            first = quotients(ratio, 1)[0]
            self.assertEqual(lengths(ratio, 1), [1, first + 1])
            if first < 2000:
                self.assertEqual(standard(ratio, 1), "a" * first + "b")

    def test_definition(self):
        for ratio in [GOLDEN, (0, 1, 2, 1), (7, 3, 11, 13)] + SLOW[:8]:
            with self.subTest(ratio):
                row = quotients(ratio, 8)
                expected = [word for word in words(row, 8) if len(word) <= 2000]
                found = [standard(ratio, level) for level in range(len(expected))]
                self.assertEqual(found, expected)
                self.assertEqual(lengths(ratio, len(expected) - 1), [len(word) for word in expected])

    def test_beginning_of_the_order(self):
        rng = random.Random(64)
        ratios = ROOTS + SLOW + [sample_ratio(rng, True) for _ in range(60)]
        checked = 0
        for ratio in ratios:
            for level, length in enumerate(lengths(ratio, 12)):
                if level > 0 and length <= 2000:
                    self.assertEqual(standard(ratio, level), merged(ratio, length))
                    checked += 1
        self.assertGreater(checked, 150)

    def test_lengths_of_many_levels(self):
        for ratio in [GOLDEN, (0, 1, 2, 2), (0, 1, 9999999967, 7), (10 ** 300, 10 ** 299 + 1, 7, 10 ** 300 + 3)]:
            row = quotients(ratio, 1000)
            found = lengths(ratio, 1000)
            self.assertEqual(len(found), 1001)
            self.assertEqual(found[:2], [1, row[0] + 1])
            for level in range(2, 1001):
                self.assertEqual(found[level], row[level - 1] * found[level - 1] + found[level - 2])

    def test_lengths_are_the_beginning_of_longer_ones(self):
        for ratio in SLOW:
            long = lengths(ratio, 30)
            for count in range(30):
                self.assertEqual(lengths(ratio, count), long[:count + 1])

    def test_lengths_are_new(self):
        first = lengths(GOLDEN, 5)
        first.append(0)
        first[0] = 7
        self.assertEqual(lengths(GOLDEN, 5), [1, 2, 3, 5, 8, 13])

    def check_too_many(self, ratio, level):
        with self.assertRaises(TooMany) as caught:
            standard(ratio, level)
        self.assertEqual(caught.exception.limit, 2000)

    def test_limit(self):
        # (ratio, level) with a word of exactly 2000 acts, and of 2001.
        at = [((1998, 1, 2, 1), 1), (number_of(((0, 1999), (1,))), 2), (number_of(((1, 2, 1, 285), (1,))), 4)]
        behind = [((1999, 1, 2, 1), 1), (number_of(((0, 2000), (1,))), 2), (number_of(((1, 1000), (1,))), 2)]
        for ratio, level in at:
            self.assertEqual(lengths(ratio, level)[level], 2000)
            self.assertEqual(standard(ratio, level), merged(ratio, 2000))
        for ratio, level in behind:
            self.assertEqual(lengths(ratio, level)[level], 2001)
            self.check_too_many(ratio, level)

    def test_each_level_behind_the_limit(self):
        # 1597 and 2584 are the lengths of s(15) and s(16).
        self.assertEqual(len(standard(GOLDEN, 15)), 1597)
        for level in [16, 17, 18, 100, 999, 1000]:
            self.check_too_many(GOLDEN, level)
        self.check_too_many((10 ** 60, 1, 2, 1), 1)
        self.check_too_many((10 ** 60, 1, 2, 1), 1000)

    def test_sizes_that_reach_the_limit(self):
        for first in range(1, 40):
            for second in range(1, 40):
                ratio = number_of(((first, second, 20), (3,)))
                length = lengths(ratio, 3)[3]
                if length <= 2000:
                    self.assertEqual(len(standard(ratio, 3)), length)
                else:
                    self.check_too_many(ratio, 3)


def greatest(word, row, level):
    """The digits for a word from a level down, the highest one first, each the greatest possible one.

    None if no digits give the word. row has the words s(0), s(1) and so on.
    """
    if level < 0:
        return () if word == "" else None
    piece = row[level]
    for digit in range(len(word) // len(piece), -1, -1):
        if word.startswith(piece * digit):
            rest = greatest(word[len(piece) * digit:], row, level - 1)
            if rest is not None:
                return (digit,) + rest
    return None


class Digits(unittest.TestCase):
    def test_known(self):
        self.assertEqual(digits(GOLDEN, 7), (0, 1, 0, 1))
        self.assertEqual([digits(GOLDEN, count) for count in range(1, 9)],
                         [(1,), (0, 1), (0, 0, 1), (1, 0, 1), (0, 0, 0, 1), (1, 0, 0, 1), (0, 1, 0, 1),
                          (0, 0, 0, 0, 1)])
        # Lengths 1, 2, 5, 12.
        self.assertEqual([digits((0, 1, 2, 1), count) for count in (4, 9, 10, 11, 12)],
                         [(0, 2), (0, 2, 1), (0, 0, 2), (1, 0, 2), (0, 0, 0, 1)])

    def test_first_quotient_of_0(self):
        # The order begins with b: the first act is s(1), never s(0). Lengths 1, 1, 2, 5.
        self.assertEqual([digits((0, 1, 2, 2), count) for count in range(1, 7)],
                         [(0, 1), (0, 0, 1), (0, 1, 1), (0, 0, 2), (0, 0, 0, 1), (0, 1, 0, 1)])

    def test_nothing(self):
        for ratio in ROOTS + SLOW:
            self.assertEqual(digits(ratio, 0), ())

    def test_greatest_possible(self):
        rng = random.Random(65)
        ratios = [GOLDEN, (0, 1, 2, 1), (1, 1, 3, 1), (7, 3, 11, 13), (1, 1, 2, 1)] + SLOW
        ratios += [number_of(((rng.randint(0, 3), rng.randint(1, 4)), (rng.randint(1, 3), 1))) for _ in range(12)]
        for ratio in ratios:
            row = []
            for word in words(quotients(ratio, 9), 9):
                row.append(word)
                if len(word) > 70 and len(row) > 2:
                    break
            order = merged(ratio, 70)
            for count in range(1, 71):
                expected = list(reversed(greatest(order[:count], row, len(row) - 1)))
                while expected[-1] == 0:
                    expected.pop()
                with self.subTest(ratio=ratio, count=count):
                    self.assertEqual(digits(ratio, count), tuple(expected))

    def test_put_together(self):
        for ratio in ROOTS + SLOW:
            for count in [1, 2, 3, 17, 100, 999, 1000, 2000]:
                found = digits(ratio, count)
                word = ""
                for level in range(len(found) - 1, -1, -1):
                    if found[level] > 0:
                        word += standard(ratio, level) * found[level]
                self.assertEqual(word, merged(ratio, count))
                self.assertGreater(found[-1], 0)

    def test_large_counts(self):
        rng = random.Random(66)
        for ratio in ROOTS + SLOW:
            for count in [HUGE, HUGE - 1, rng.randint(1, HUGE), rng.randint(1, 10 ** 20)]:
                found = digits(ratio, count)
                sizes = lengths(ratio, len(found))
                self.assertGreater(found[-1], 0)
                rest = count
                for level in range(len(found) - 1, -1, -1):
                    rest -= found[level] * sizes[level]
                    # No digit can be greater.
                    self.assertTrue(0 <= rest < sizes[level])
                self.assertEqual(rest, 0)
                self.assertGreater(sizes[-1], count)

    def test_one_word(self):
        for ratio in [GOLDEN, (0, 1, 2, 2), (7, 3, 11, 13)]:
            for level, length in enumerate(lengths(ratio, 60)):
                if level > 1 and length <= HUGE:
                    self.assertEqual(digits(ratio, length), (0,) * level + (1,))

    def test_counts_of_the_digits(self):
        # The acts of the words, added up, are the counts.
        for ratio in ROOTS + SLOW:
            row = quotients(ratio, 300)
            many = [(1, 0), (row[0], 1)]
            for quotient in row[1:]:
                many.append(tuple(quotient * last + before for last, before in zip(many[-1], many[-2])))
            for count in [HUGE, HUGE // 3, 10 ** 17 + 1]:
                found = digits(ratio, count)
                total = tuple(sum(digit * part[side] for digit, part in zip(found, many)) for side in (0, 1))
                self.assertEqual(counts(ratio, count), total)

    def test_kinds_of_values(self):
        found = digits(GOLDEN, 1000)
        self.assertIs(type(found), tuple)
        self.assertEqual({type(part) for part in found}, {int})


class Arguments(unittest.TestCase):
    def test_the_order_of_a_ratio_is_the_mirror_of_the_inverse(self):
        # Without equal times, exchanging the workers inverts the ratio.
        for ratio, inverse in PAIRS:
            if ratio[1] != 0:
                exchanged = "".join("b" if act == "a" else "a" for act in acts(ratio, 500))
                self.assertEqual(acts(inverse, 500), exchanged)

    def test_blocks_have_two_lengths(self):
        for ratio in [GOLDEN, (0, 1, 14, 1), (7, 3, 11, 13)]:
            sizes = {len(list(part)) for act, part in groupby(acts(ratio, 1000)[:-20]) if act == "a"}
            self.assertEqual(len(sizes), 2)
            self.assertEqual(max(sizes) - min(sizes), 1)

    def test_arguments_stay(self):
        for ratio in [GOLDEN, (3, 0, 0, 2)]:
            kept = copy.deepcopy(ratio)
            counts(ratio, 9), act_at(ratio, 9), acts(ratio, 9), place_of(ratio, "a", 9)
            self.assertEqual(ratio, kept)
        self.assertEqual(expansion(GOLDEN), ((), (1,)))


if __name__ == "__main__":
    unittest.main()

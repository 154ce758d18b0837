"""Shares: points 3 and 14 and the interface's stage 7."""

import copy
import random
import unittest

from twospeeds.numbers import compare, is_number, number, opposite, over, plus, sign
from twospeeds.order import lengths
from twospeeds.patterns import closed_sets, lasting, stable_level, visits
from twospeeds.shares import shares
from walks import (FRACTIONS, GOLDEN, LARGE_FRACTIONS, LARGE_ROOTS, LATE, ONE, ROOTS, ZERO, beginning, map_of_word,
                   power,
                   round_word, sample_maps, sample_ratio, walk)


def total(rows):
    found = ZERO
    for one in rows:
        found = plus(found, one)
    return found


def share_of_a(ratio):
    return over(ratio, plus(ONE, ratio))


def permutations(rng, size):
    rows = [list(range(size)), list(range(size))]
    for row in rows:
        rng.shuffle(row)
    return tuple(tuple(row) for row in rows)


class Known(unittest.TestCase):
    def test_document(self):
        self.assertEqual(shares(GOLDEN, ((1, 0), (0, 0)), 0), ((-1, 1, 5, 2), (3, -1, 5, 2)))
        self.assertEqual(shares(GOLDEN, ((1, 0), (0, 1)), 0), ((1, 0, 0, 2), (1, 0, 0, 2)))

    def test_the_worker_of_the_last_act(self):
        rng = random.Random(151)
        for turn in range(200):
            if turn < len(ROOTS + FRACTIONS + LARGE_ROOTS + LARGE_FRACTIONS):
                ratio = (ROOTS + FRACTIONS + LARGE_ROOTS + LARGE_FRACTIONS)[turn]
            else:
                ratio = sample_ratio(rng, turn % 2 == 0)
            of_a = share_of_a(ratio)
            of_b = over(ONE, plus(ONE, ratio))
            self.assertEqual(shares(ratio, ((0, 0), (1, 1)), 1), (of_a, of_b))
            self.assertEqual(shares(ratio, ((1, 1, 1), (2, 2, 2)), 0), (ZERO, of_a, of_b))

    def test_the_last_two_acts(self):
        # 0 behind a a, 1 behind a b, 2 behind b a, 3 behind b b.
        maps = ((0, 2, 0, 2), (1, 3, 1, 3))
        for ratio in ROOTS + FRACTIONS + LARGE_ROOTS + LARGE_FRACTIONS + [LATE]:
            of_a = share_of_a(ratio)
            of_b = over(ONE, plus(ONE, ratio))
            # The rarer worker never acts twice.
            rare = of_b if compare(ratio, ONE) == 1 else of_a
            expected = [plus(of_a, opposite(rare)), rare, rare, plus(of_b, opposite(rare))]
            self.assertEqual(shares(ratio, maps, 0), tuple(expected))

    def test_golden_rows(self):
        # abaab abaab ..: in golden's order, a a stands behind b, and 2 behind it.
        maps = ((1, 2, 2), (0, 0, 0))
        self.assertEqual(shares(GOLDEN, maps, 0), ((3, -1, 5, 2), (3, -1, 5, 2), (-2, 1, 5, 1)))

    def test_one_state(self):
        for ratio in ROOTS + FRACTIONS + LARGE_ROOTS + [LATE]:
            self.assertEqual(shares(ratio, ((0,), (0,)), 0), (ONE,))

    def test_the_same_maps(self):
        for ratio in ROOTS + FRACTIONS + [LATE]:
            row = (1, 2, 3, 4, 2, 0)
            third = (1, 0, 0, 3)
            self.assertEqual(shares(ratio, (row, row), 5), (ZERO, ZERO, third, third, third, ZERO))


class All(unittest.TestCase):
    def check(self, ratio, maps, start):
        found = shares(ratio, maps, start)
        self.assertIs(type(found), tuple)
        self.assertEqual(len(found), len(maps[0]))
        self.assertTrue(all(is_number(one) for one in found))
        self.assertEqual(total(found), ONE)
        met = lasting(ratio, maps, start)
        self.assertEqual([sign(one) for one in found],
                         [1 if state in met else 0 for state in range(len(maps[0]))])
        return found

    def test_samples(self):
        rng = random.Random(152)
        for turn in range(400):
            ratio = rng.choice(ROOTS + FRACTIONS) if turn % 2 == 0 else sample_ratio(rng, turn % 4 == 1)
            size = rng.randint(1, 12)
            self.check(ratio, sample_maps(rng, size), rng.randrange(size))

    def test_many_states(self):
        rng = random.Random(153)
        for ratio in [GOLDEN, (0, 1, 2, 2), (8, 0, 0, 13)] + LARGE_ROOTS + LARGE_FRACTIONS + [LATE]:
            for _ in range(2):
                self.check(ratio, sample_maps(rng, 144), rng.randrange(144))

    def test_states_of_the_beginning_do_not_count(self):
        maps = ((1, 2, 3, 4, 5, 4), (1, 1, 2, 3, 4, 5))
        for ratio in ROOTS + LARGE_ROOTS + [LATE]:
            self.assertEqual(self.check(ratio, maps, 0), (ZERO,) * 4 + ((1, 0, 0, 2),) * 2)
        for ratio in FRACTIONS + LARGE_FRACTIONS:
            self.assertEqual(self.check(ratio, maps, 0)[:4], (ZERO,) * 4)


class Fractions(unittest.TestCase):
    def test_one_round_that_repeats(self):
        rng = random.Random(154)
        for ratio in FRACTIONS:
            word = round_word(ratio)
            for _ in range(12):
                size = rng.randint(1, 12)
                maps, start = sample_maps(rng, size), rng.randrange(size)
                one_round = map_of_word(word, maps)
                # From a state that repeats until it comes again.
                state = first = power(one_round, size)[start]
                row = []
                while True:
                    row += walk(word, maps, state)[1:]
                    state = one_round[state]
                    if state == first:
                        break
                self.assertEqual(shares(ratio, maps, start),
                                 tuple(number(row.count(one), 0, 0, len(row)) for one in range(size)))

    def test_long_rounds(self):
        # 10^60 a's and a b: 1 behind the first a, then 2, 3, 2, 3, and 0 behind the b.
        many = 10 ** 60
        maps = ((1, 2, 3, 2), (0, 0, 0, 0))
        self.assertEqual(shares((many, 0, 0, 1), maps, 0),
                         tuple(number(times, 0, 0, many + 1) for times in (1, 1, many // 2, many // 2 - 1)))
        self.assertEqual(shares((1, 0, 0, many), maps[::-1], 0),
                         tuple(number(times, 0, 0, many + 1) for times in (1, 1, many // 2, many // 2 - 1)))


class OneToOne(unittest.TestCase):
    def test_equal_shares(self):
        rng = random.Random(155)
        for ratio in ROOTS + LARGE_ROOTS + [LATE]:
            for size in (1, 2, 3, 5, 8, 12):
                maps, start = permutations(rng, size), rng.randrange(size)
                met = lasting(ratio, maps, start)
                found = shares(ratio, maps, start)
                for state in range(size):
                    self.assertEqual(found[state], number(1, 0, 0, len(met)) if state in met else ZERO)

    def test_commuting(self):
        for ratio in ROOTS + LARGE_ROOTS + [LATE]:
            maps = (tuple((state + 1) % 144 for state in range(144)), tuple((state + 5) % 144 for state in range(144)))
            self.assertEqual(shares(ratio, maps, 7), ((1, 0, 0, 144),) * 144)

    def test_a_round_need_not_be_equal(self):
        # For a fraction, one-to-one maps may favour a state.
        self.assertEqual(shares(ONE, ((1, 0), (1, 0)), 0), ((1, 0, 0, 2), (1, 0, 0, 2)))
        self.assertEqual(shares((2, 0, 0, 1), ((1, 0), (0, 1)), 0), ((2, 0, 0, 3), (1, 0, 0, 3)))


class Limits(unittest.TestCase):
    """Against how often the states stand behind the acts of long beginnings."""

    def test_between_the_words(self):
        # From some act on, the order consists of words s(k) and s(k - 1): the share lies between
        # the least and the greatest part of them, whatever the level is.
        rng = random.Random(156)
        for _ in range(60):
            ratio, size = rng.choice(ROOTS), rng.randint(2, 6)
            maps, start = sample_maps(rng, size), rng.randrange(size)
            found = shares(ratio, maps, start)
            first = stable_level(ratio, maps)
            for level in (first, first + 1, first + 4, first + 30):
                sizes = lengths(ratio, level)
                upper, lower = closed_sets(ratio, maps, start, level)
                rows = [(visits(ratio, maps, level, state), sizes[level]) for state in set(upper + lower)]
                rows += [(visits(ratio, maps, level - 1, state), sizes[level - 1]) for state in upper]
                for state in range(size):
                    parts = [number(row.get(state, 0), 0, 0, length) for row, length in rows]
                    self.assertTrue(any(compare(part, found[state]) <= 0 for part in parts))
                    self.assertTrue(any(compare(part, found[state]) >= 0 for part in parts))

    def test_long_words(self):
        # The parts of s(k) come as near to the shares as one likes.
        rng = random.Random(157)
        for _ in range(60):
            ratio, size = rng.choice(ROOTS), rng.randint(2, 6)
            maps, start = sample_maps(rng, size), rng.randrange(size)
            found = shares(ratio, maps, start)
            row, length = visits(ratio, maps, 1000, start), lengths(ratio, 1000)[1000]
            for state in range(size):
                part = number(row.get(state, 0), 0, 0, length)
                away = plus(part, opposite(found[state]))
                away = away if sign(away) >= 0 else opposite(away)
                self.assertEqual(compare(away, (1, 0, 0, 10 ** 9)), -1)

    def test_walks(self):
        rng = random.Random(158)
        for _ in range(150):
            ratio, size = rng.choice(ROOTS[:6] + FRACTIONS), rng.randint(1, 3)
            maps, start = sample_maps(rng, size), rng.randrange(size)
            row = walk(beginning(ratio, 4000), maps, start)[1:]
            for state, share in enumerate(shares(ratio, maps, start)):
                away = plus(number(row.count(state), 0, 0, 4000), opposite(share))
                away = away if sign(away) >= 0 else opposite(away)
                self.assertEqual(compare(away, (3, 0, 0, 100)), -1, (ratio, maps, start))

    def test_what_is_behind_an_a(self):
        # The states that only an a leads to have the share of a together.
        rng = random.Random(159)
        for ratio in ROOTS + LARGE_ROOTS + [LATE]:
            for _ in range(6):
                maps = (tuple(rng.randrange(4) for _ in range(8)), tuple(rng.randrange(4, 8) for _ in range(8)))
                found = shares(ratio, maps, rng.randrange(8))
                self.assertEqual(total(found[:4]), share_of_a(ratio))
                self.assertEqual(total(found[4:]), over(ONE, plus(ONE, ratio)))

    def test_states_that_are_told_apart(self):
        # With the worker of the last act beside the state, the shares are those of the state in two parts.
        rng = random.Random(160)
        for ratio in ROOTS + [LATE]:
            size = rng.randint(2, 6)
            maps, start = sample_maps(rng, size), rng.randrange(size)
            # The state, and then the worker of the last act.
            doubled = (tuple(2 * maps[0][state // 2] for state in range(2 * size)),
                       tuple(2 * maps[1][state // 2] + 1 for state in range(2 * size)))
            found = shares(ratio, doubled, 2 * start)
            self.assertEqual(tuple(plus(found[2 * state], found[2 * state + 1]) for state in range(size)),
                             shares(ratio, maps, start))
            self.assertEqual(total(found[::2]), share_of_a(ratio))


class Arguments(unittest.TestCase):
    def test_arguments_stay(self):
        for ratio in (GOLDEN, (8, 0, 0, 13)):
            maps = ((1, 2, 0), (0, 0, 0))
            kept = copy.deepcopy((ratio, maps))
            self.assertEqual(shares(ratio, maps, 0), shares(ratio, maps, 0))
            self.assertEqual((ratio, maps), kept)


if __name__ == "__main__":
    unittest.main()

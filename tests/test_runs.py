"""Runs: points 3, 6 and 11, and twospeeds/runs.py of the interface's stage 5."""

import copy
import random
import unittest

from twospeeds.order import act_at, counts, digits
from twospeeds.quotients import expansion
from twospeeds.runs import path, state_after
from walks import (FRACTIONS, GOLDEN, LARGE_FRACTIONS, LARGE_ROOTS, LATE, ONE, ROOTS, beginning, map_of_word, power,
                   round_word, sample_maps, sample_ratio, standard_maps, walk)

HUGE = 10 ** 300


def counting(size, step):
    """maps that add 1 for an a and a step for a b, modulo the number of states."""
    return (tuple((state + 1) % size for state in range(size)),
            tuple((state + step) % size for state in range(size)))


class Path(unittest.TestCase):
    def test_known(self):
        maps = ((1, 0), (0, 1))
        self.assertEqual(path(GOLDEN, maps, 0, 8), [0, 1, 1, 0, 1, 1, 0, 0, 1])
        self.assertEqual(path(GOLDEN, maps, 1, 4), [1, 0, 0, 1, 0])
        # a b a b ..
        self.assertEqual(path(ONE, ((1, 2, 2), (0, 0, 0)), 0, 5), [0, 1, 0, 1, 0, 1])
        self.assertEqual(path((1, 0, 0, 2), ((1, 2, 2), (0, 0, 1)), 2, 6), [2, 1, 2, 1, 0, 1, 0])

    def test_the_map_of_the_worker(self):
        # An a leads to 1 and a b to 0, so the path is the order itself.
        for ratio in ROOTS + FRACTIONS:
            found = path(ratio, ((1, 1), (0, 0)), 0, 300)
            self.assertEqual("".join("ba"[state] for state in found[1:]), beginning(ratio, 300))

    def test_walks(self):
        rng = random.Random(111)
        for ratio in ROOTS + FRACTIONS + LARGE_ROOTS + LARGE_FRACTIONS + [LATE]:
            for _ in range(5):
                size = rng.randint(1, 12)
                maps = sample_maps(rng, size)
                start = rng.randrange(size)
                self.assertEqual(path(ratio, maps, start, 300), walk(beginning(ratio, 300), maps, start))

    def test_counts(self):
        maps = ((1, 2, 0), (2, 2, 1))
        for ratio in ROOTS + FRACTIONS:
            longest = path(ratio, maps, 1, 60)
            for count in range(60):
                self.assertEqual(path(ratio, maps, 1, count), longest[:count + 1])
        self.assertEqual(path(GOLDEN, maps, 2, 0), [2])
        self.assertEqual(path(GOLDEN, maps, 2, 2000), walk(beginning(GOLDEN, 2000), maps, 2))

    def test_one_state(self):
        self.assertEqual(path(GOLDEN, ((0,), (0,)), 0, 3), [0, 0, 0, 0])
        self.assertEqual(state_after(GOLDEN, ((0,), (0,)), 0, HUGE), 0)

    def test_new_each_time(self):
        maps = ((1, 0), (0, 1))
        found = path(GOLDEN, maps, 0, 4)
        self.assertIs(type(found), list)
        found.append(7)
        self.assertEqual(path(GOLDEN, maps, 0, 4), [0, 1, 1, 0, 1])


class Small(unittest.TestCase):
    """state_after held against path."""

    def test_walks(self):
        rng = random.Random(112)
        for ratio in ROOTS + FRACTIONS + LARGE_ROOTS + LARGE_FRACTIONS + [LATE]:
            size = rng.randint(2, 9)
            maps = sample_maps(rng, size)
            start = rng.randrange(size)
            expected = walk(beginning(ratio, 300), maps, start)
            self.assertEqual([state_after(ratio, maps, start, count) for count in range(301)], expected)

    def test_random_ratios(self):
        rng = random.Random(113)
        for turn in range(150):
            ratio = sample_ratio(rng, turn % 2 == 0)
            size = rng.randint(1, 12)
            maps = sample_maps(rng, size)
            start = rng.randrange(size)
            expected = path(ratio, maps, start, 400)
            for count in [0, 1, 2, 3, 400] + [rng.randrange(400) for _ in range(10)]:
                self.assertEqual(state_after(ratio, maps, start, count), expected[count])

    def test_no_acts(self):
        for ratio in ROOTS + FRACTIONS + LARGE_ROOTS + LARGE_FRACTIONS + [LATE]:
            for start in range(3):
                self.assertEqual(state_after(ratio, ((1, 2, 0), (0, 0, 0)), start, 0), start)

    def test_many_states(self):
        rng = random.Random(114)
        for ratio in (GOLDEN, (8, 0, 0, 13)):
            for _ in range(5):
                maps = sample_maps(rng, 144)
                expected = path(ratio, maps, 5, 1000)
                self.assertEqual([state_after(ratio, maps, 5, count) for count in range(0, 1001, 50)],
                                 expected[::50])

    def test_kind_of_value(self):
        self.assertIs(type(state_after(GOLDEN, ((1, 0), (0, 1)), 0, 8)), int)


class Large(unittest.TestCase):
    """state_after held against the order of the acts at places that no walk reaches."""

    def places(self, rng):
        return [10 ** 12, 10 ** 40, HUGE, HUGE - 1, 2 ** 996, rng.randrange(HUGE), rng.randrange(10 ** 100)]

    def test_the_acts_that_follow(self):
        rng = random.Random(115)
        for ratio in ROOTS + FRACTIONS[::2] + LARGE_ROOTS + LARGE_FRACTIONS + [LATE]:
            size = rng.randint(2, 9)
            maps = sample_maps(rng, size)
            for count in self.places(rng):
                state = state_after(ratio, maps, 0, count)
                for place in range(count + 1, count + 9):
                    state = maps["ab".index(act_at(ratio, place))][state]
                    self.assertEqual(state_after(ratio, maps, 0, place), state)

    def test_numbers_of_acts(self):
        # The maps count the acts of both workers.
        rng = random.Random(116)
        for ratio in ROOTS + FRACTIONS + LARGE_ROOTS + LARGE_FRACTIONS + [LATE]:
            for size in (2, 12, 143, 144):
                step = rng.randrange(size)
                maps = counting(size, step)
                for count in self.places(rng):
                    many_a, many_b = counts(ratio, count)
                    self.assertEqual(state_after(ratio, maps, 1, count), (1 + many_a + step * many_b) % size)

    def test_last_acts(self):
        # The state holds the last four acts.
        maps = (tuple(2 * state % 16 for state in range(16)), tuple((2 * state + 1) % 16 for state in range(16)))
        rng = random.Random(117)
        for ratio in ROOTS + FRACTIONS + LARGE_ROOTS + LARGE_FRACTIONS + [LATE]:
            for count in self.places(rng):
                expected = 0
                for place in range(count - 3, count + 1):
                    expected = 2 * expected + "ab".index(act_at(ratio, place))
                self.assertEqual(state_after(ratio, maps, 0, count), expected)

    def test_rounds_of_a_fraction(self):
        rng = random.Random(118)
        for ratio in FRACTIONS:
            word = round_word(ratio)
            for _ in range(4):
                size = rng.randint(2, 9)
                maps = sample_maps(rng, size)
                one_round = map_of_word(word, maps)
                for rounds in (1, 2, 3, 10 ** 9, 10 ** 290 + 7):
                    state = power(one_round, rounds)[1]
                    for count in range(len(word) + 1):
                        self.assertEqual(state_after(ratio, maps, 1, rounds * len(word) + count),
                                         walk(word[:count], maps, state)[-1])

    def test_digits(self):
        rng = random.Random(119)
        for ratio in ROOTS + [LATE]:
            size = rng.randint(2, 9)
            maps = sample_maps(rng, size)
            for count in [1, 2, 10 ** 6, 10 ** 40] + [rng.randrange(10 ** 40) for _ in range(5)]:
                row = digits(ratio, count)
                words = standard_maps(ratio, maps, len(row) - 1)
                state = 0
                for digit, word in zip(reversed(row), reversed(words)):
                    state = power(word, digit)[state]
                self.assertEqual(state_after(ratio, maps, 0, count), state)

    def test_large_quotients(self):
        # 10^60 a's and then a b, and so on.
        maps = ((1, 2, 3, 4, 5, 3, 0), (6, 6, 6, 6, 6, 6, 6))
        ratio = (10 ** 60, 0, 0, 1)
        self.assertEqual(state_after(ratio, maps, 0, 10 ** 60), 3 + (10 ** 60 - 3) % 3)
        self.assertEqual(state_after(ratio, maps, 0, 10 ** 60 + 1), 6)
        self.assertEqual(state_after(ratio, maps, 0, 10 ** 60 + 2), 0)
        self.assertEqual(state_after(ratio, maps, 0, 2 * 10 ** 60 + 1), 3 + (10 ** 60 - 1 - 3) % 3)
        self.assertEqual(state_after((1, 0, 0, 10 ** 60), maps[::-1], 0, 10 ** 60 - 1), 3 + (10 ** 60 - 1 - 3) % 3)

    def test_more_quotients_than_an_expansion_has(self):
        from twospeeds.errors import TooMany
        with self.assertRaises(TooMany):
            expansion(LATE)
        self.assertEqual(state_after(LATE, counting(144, 5), 0, HUGE),
                         (counts(LATE, HUGE)[0] + 5 * counts(LATE, HUGE)[1]) % 144)


class Arguments(unittest.TestCase):
    def test_arguments_stay(self):
        for ratio in (GOLDEN, (8, 0, 0, 13)):
            maps = ((1, 2, 0), (0, 0, 0))
            kept = copy.deepcopy((ratio, maps))
            path(ratio, maps, 0, 50), state_after(ratio, maps, 0, 50), state_after(ratio, maps, 0, HUGE)
            self.assertEqual((ratio, maps), kept)


if __name__ == "__main__":
    unittest.main()

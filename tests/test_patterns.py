"""Patterns: points 11 to 13 and the interface's stage 6."""

import copy
import random
import unittest

from twospeeds.numbers import over, times
from twospeeds.order import acts, lengths
from twospeeds.patterns import (closed_sets, lasting, never, next_act, occurring, shows_never, stable_level, visits)
from twospeeds.quotients import number_of, quotients
from twospeeds.runs import state_after
from walks import (FRACTIONS, GOLDEN, LARGE_FRACTIONS, LARGE_ROOTS, LATE, ONE, ROOTS, beginning, closure, is_proof,
                   map_of_word, power, round_word, sample_maps, sample_ratio, standard_maps, standard_word, walk)

HUGE = 10 ** 300
LONG = 4000


def one_to_one(row, states):
    return len({row[state] for state in states}) == len(set(states))


def is_stable(words, level):
    """Point 12's words for the maps of s(0), s(1), .. and a level."""
    word, before = words[level], words[level - 1]
    return one_to_one(word, set(word)) and one_to_one(word, set(before)) and one_to_one(before, set(word))


def falling(size):
    """Maps whose words lead to one state less at a time, late."""
    return (tuple(min(state + 1, size - 1) for state in range(size)), tuple(range(size)))


def parts(rng, most):
    """A ratio with a root or a fraction, maps, and a start."""
    size = rng.randint(1, most)
    return rng.choice(ROOTS + FRACTIONS), sample_maps(rng, size), rng.randrange(size)


class Stable(unittest.TestCase):
    def check(self, ratio, maps, beyond):
        found = stable_level(ratio, maps)
        words = standard_maps(ratio, maps, found + beyond)
        self.assertGreaterEqual(found, 1)
        for level in range(1, found):
            self.assertFalse(is_stable(words, level), (ratio, maps, level))
        for level in range(found, found + beyond + 1):
            self.assertTrue(is_stable(words, level), (ratio, maps, level))

    def test_known(self):
        self.assertEqual(stable_level(GOLDEN, ((1, 0, 2), (0, 1, 2))), 1)
        self.assertEqual(stable_level(GOLDEN, ((0,), (0,))), 1)
        # s(1) = ab leads 0 to 1, which s(0) = a takes to the place of 2.
        self.assertEqual(stable_level(GOLDEN, ((0, 0), (0, 1))), 1)
        self.assertEqual(stable_level(GOLDEN, ((1, 1), (0, 1))), 1)
        # s(1) = ab leads to 1, 2 and 3, s(2) to 1 and 2, s(3) to 2 and 3, s(4) to 2, s(5) to 3.
        self.assertEqual(stable_level(GOLDEN, ((0, 1, 2, 2), (1, 2, 3, 3))), 5)

    def test_samples(self):
        rng = random.Random(121)
        for _ in range(400):
            self.check(rng.choice(ROOTS), sample_maps(rng, rng.randint(1, 12)), 5)

    def test_small_maps(self):
        for ratio in ROOTS[:4]:
            for one in range(27):
                for other in range(27):
                    maps = tuple((row // 9, row // 3 % 3, row % 3) for row in (one, other))
                    self.check(ratio, maps, 3)

    def test_other_ratios(self):
        rng = random.Random(122)
        for turn in range(60):
            ratio = (LARGE_ROOTS + [LATE])[turn % 4] if turn < 20 else sample_ratio(rng, True)
            self.check(ratio, sample_maps(rng, rng.randint(1, 12)), 4)

    def test_many_states(self):
        rng = random.Random(123)
        for ratio in (GOLDEN, (0, 1, 2, 2), LATE):
            self.check(ratio, falling(144), 4)
            self.check(ratio, falling(144)[::-1], 4)
            for _ in range(6):
                self.check(ratio, sample_maps(rng, 144), 3)

    def test_one_to_one(self):
        rng = random.Random(124)
        for ratio in ROOTS:
            rows = [list(range(8)), list(range(8))]
            for row in rows:
                rng.shuffle(row)
            self.assertEqual(stable_level(ratio, (tuple(rows[0]), tuple(rows[1]))), 1)

    def test_late(self):
        # The words lose a state only now and then.
        found = [stable_level(GOLDEN, falling(size)) for size in (2, 4, 8, 16, 144)]
        self.assertEqual(found, sorted(found))
        self.assertGreater(found[-1], 8)


class Closed(unittest.TestCase):
    def test_known(self):
        self.assertEqual(closed_sets(GOLDEN, ((1, 0, 2), (0, 1, 2)), 0, 1), ((0, 1), (0, 1)))
        self.assertEqual(closed_sets(GOLDEN, ((1, 0, 2), (0, 1, 2)), 2, 1), ((2,), (2,)))
        # The start need not be in them.
        self.assertEqual(closed_sets(GOLDEN, ((1, 1, 2), (0, 1, 2)), 0, 1), ((1,), (1,)))
        # A set W that is not in U: a leads to 2 and b to 0 or 1.
        self.assertEqual(closed_sets(GOLDEN, ((2, 2, 2), (1, 1, 0)), 1, 1), ((0,), (2,)))
        # a b a b ..: 0 in front of each round.
        self.assertEqual(closed_sets(ONE, ((1, 2, 2), (0, 0, 0)), 0, 0), ((0,), ()))
        self.assertEqual(closed_sets(ONE, ((1, 2, 2), (0, 0, 0)), 2, 0), ((0, 2), ()))

    def test_levels(self):
        rng = random.Random(125)
        for _ in range(150):
            ratio, size = rng.choice(ROOTS), rng.randint(1, 12)
            maps, start = sample_maps(rng, size), rng.randrange(size)
            words = standard_maps(ratio, maps, 30)
            for level in (1, 2, 3, 4, rng.randint(5, 30)):
                self.assertEqual(closed_sets(ratio, maps, start, level),
                                 closure(words[level - 1], words[level], start))

    def test_by_the_words_themselves(self):
        rng = random.Random(126)
        for _ in range(100):
            ratio, size = rng.choice(ROOTS), rng.randint(1, 6)
            maps, start, level = sample_maps(rng, size), rng.randrange(size), rng.randint(1, 4)
            before = map_of_word(standard_word(ratio, level - 1), maps)
            word = map_of_word(standard_word(ratio, level), maps)
            self.assertEqual(closed_sets(ratio, maps, start, level), closure(before, word, start))

    def test_large_levels(self):
        rng = random.Random(127)
        for ratio in ROOTS[:6] + LARGE_ROOTS + [LATE]:
            for size in (3, 12, 144):
                maps, start = sample_maps(rng, size), rng.randrange(size)
                words = standard_maps(ratio, maps, 1000)
                for level in (200, 999, 1000):
                    self.assertEqual(closed_sets(ratio, maps, start, level),
                                     closure(words[level - 1], words[level], start))

    def test_the_run_stays_in_them(self):
        rng = random.Random(128)
        for _ in range(60):
            ratio, size, level = rng.choice(ROOTS), rng.randint(1, 8), rng.randint(1, 3)
            maps, start = sample_maps(rng, size), rng.randrange(size)
            upper, lower = closed_sets(ratio, maps, start, level)
            words = {"a": standard_word(ratio, level), "b": standard_word(ratio, level - 1)}
            row = quotients(ratio, level + 12)[level:]
            # The order of the words s(level) and s(level - 1) is that of the other quotients.
            order = standard_word(number_of((tuple(row[:-1]), (row[-1],))), 6)[:200]
            state, behind_shorter = map_of_word(words["a"], maps)[start], False
            for letter in order[1:]:
                self.assertIn(state, lower if behind_shorter else upper)
                self.assertFalse(letter == "b" and behind_shorter)
                state, behind_shorter = map_of_word(words[letter], maps)[state], letter == "b"

    def test_fractions(self):
        rng = random.Random(129)
        for ratio in FRACTIONS:
            for _ in range(10):
                size = rng.randint(1, 12)
                maps, start = sample_maps(rng, size), rng.randrange(size)
                one_round = map_of_word(round_word(ratio), maps)
                expected = {power(one_round, times)[start] for times in range(size)}
                self.assertEqual(closed_sets(ratio, maps, start, 0), (tuple(sorted(expected)), ()))

    def test_large_fractions(self):
        rng = random.Random(130)
        for ratio in LARGE_FRACTIONS:
            size = 9
            maps, start = sample_maps(rng, size), rng.randrange(size)
            expected = {state_after(ratio, maps, start, times * (ratio[0] + ratio[3])) for times in range(size)}
            self.assertEqual(closed_sets(ratio, maps, start, 0), (tuple(sorted(expected)), ()))


class Visits(unittest.TestCase):
    def test_known(self):
        # s(3) = abaab from 0: 1 0 1 2 0
        maps = ((1, 2, 2), (0, 0, 0))
        self.assertEqual(visits(GOLDEN, maps, 3, 0), {0: 2, 1: 2, 2: 1})
        self.assertEqual(visits(GOLDEN, maps, 0, 1), {2: 1})
        self.assertEqual(visits(GOLDEN, maps, 1, 1), {2: 1, 0: 1})
        # aab
        self.assertEqual(visits((2, 0, 0, 1), maps, 0, 0), {1: 1, 2: 1, 0: 1})
        self.assertEqual(visits((0, 1, 2, 2), maps, 1, 1), {0: 1})

    def test_walks(self):
        rng = random.Random(131)
        for _ in range(200):
            ratio, size, level = rng.choice(ROOTS), rng.randint(1, 12), rng.randint(0, 6)
            maps, state = sample_maps(rng, size), rng.randrange(size)
            row = walk(standard_word(ratio, level), maps, state)[1:]
            self.assertEqual(visits(ratio, maps, level, state), {one: row.count(one) for one in set(row)})

    def test_long_repetitions(self):
        # More a's than the rounds of the map of a, and fewer.
        rng = random.Random(132)
        for first in (1, 2, 5, 6, 7, 8, 13, 14, 100, 1001):
            for again in ((1,), (20,)):
                ratio = number_of(((first,), again))
                for ratio in (ratio, over(ONE, ratio)):
                    for _ in range(6):
                        size = rng.randint(1, 9)
                        maps, state, level = sample_maps(rng, size), rng.randrange(size), rng.randint(1, 3)
                        row = walk(standard_word(ratio, level), maps, state)[1:]
                        self.assertEqual(visits(ratio, maps, level, state), {one: row.count(one) for one in set(row)})

    def test_fractions(self):
        rng = random.Random(133)
        for ratio in FRACTIONS + [(40, 0, 0, 1), (1, 0, 0, 40), (99, 0, 0, 100)]:
            for _ in range(6):
                size = rng.randint(1, 12)
                maps, state = sample_maps(rng, size), rng.randrange(size)
                row = walk(round_word(ratio), maps, state)[1:]
                self.assertEqual(visits(ratio, maps, 0, state), {one: row.count(one) for one in set(row)})

    def test_sums(self):
        rng = random.Random(134)
        for ratio in ROOTS + LARGE_ROOTS + [LATE]:
            for size in (1, 5, 144):
                maps, state = sample_maps(rng, size), rng.randrange(size)
                for level in (0, 1, 50, 1000):
                    found = visits(ratio, maps, level, state)
                    self.assertEqual(sum(found.values()), lengths(ratio, level)[level])
                    self.assertGreater(min(found.values()), 0)
        for ratio in LARGE_FRACTIONS:
            found = visits(ratio, sample_maps(rng, 144), 0, 5)
            self.assertEqual(sum(found.values()), ratio[0] + ratio[3])

    def test_the_words_inside(self):
        # s(k + 1) is c(k) times s(k) and then s(k - 1).
        rng = random.Random(135)
        for ratio in ROOTS:
            maps, state = sample_maps(rng, 9), rng.randrange(9)
            words = standard_maps(ratio, maps, 1000)
            row = quotients(ratio, 1000)
            for level in (20, 300, 999):
                expected = {}
                place = state
                for word in [level] * row[level] + [level - 1]:
                    for one, many in visits(ratio, maps, word, place).items():
                        expected[one] = expected.get(one, 0) + many
                    place = words[word][place]
                self.assertEqual(visits(ratio, maps, level + 1, state), expected)

    def test_large_quotients(self):
        # 10^60 a's, which turn through 3, 4 and 5, and then a b.
        maps = ((1, 2, 3, 4, 5, 3, 0), (6, 6, 6, 6, 6, 6, 6))
        found = visits((10 ** 60, 0, 0, 1), maps, 0, 0)
        times = {0: 0, 1: 1, 2: 1, 3: 0, 4: 0, 5: 0, 6: 1}
        # The acts 3, 4, 5, .. 10^60 of them: 3 behind those that 3 divides.
        times[3] = 10 ** 60 // 3
        times[4] = 10 ** 60 // 3 - 1 + (10 ** 60 % 3 >= 1)
        times[5] = 10 ** 60 // 3 - 1 + (10 ** 60 % 3 >= 2)
        self.assertEqual(found, {state: many for state, many in times.items() if many > 0})


class Long(unittest.TestCase):
    """occurring, lasting, next_act and never held against long walks."""

    def test_walks(self):
        rng = random.Random(136)
        for _ in range(500):
            ratio, maps, start = parts(rng, 5)
            row = walk(beginning(ratio, LONG), maps, start)
            self.assertEqual(occurring(ratio, maps, start), sorted(set(row)))
            self.assertEqual(lasting(ratio, maps, start), sorted(set(row[LONG // 2:])))
            targets = [state for state in range(len(maps[0])) if rng.random() < 0.4]
            for passed in (0, 1, rng.randrange(10), rng.randrange(200), rng.randrange(2000)):
                expected = next((act for act in range(passed, LONG) if row[act] in targets), None)
                self.assertEqual(next_act(ratio, maps, start, passed, targets), expected)
            self.assertEqual(never(ratio, maps, start, targets) is None, any(state in targets for state in row))

    def test_for_a_while(self):
        # A first state that nothing leads to; then a row of states, one for each a; then 4 and 5 for ever.
        maps = ((1, 2, 3, 4, 5, 4), (1, 1, 2, 3, 4, 5))
        for ratio in ROOTS + FRACTIONS + LARGE_ROOTS + [LATE]:
            self.assertEqual(occurring(ratio, maps, 0), [0, 1, 2, 3, 4, 5])
            self.assertEqual(lasting(ratio, maps, 0), [4, 5])
            self.assertEqual(occurring(ratio, maps, 3), [3, 4, 5])
            self.assertEqual(lasting(ratio, maps, 4), [4, 5])
            self.assertEqual(next_act(ratio, maps, 0, 0, [0]), 0)
            self.assertIsNone(next_act(ratio, maps, 0, 1, [0]))
            word = acts(ratio, 100)
            if word.count("a") > 3:
                last = max(act for act, state in enumerate(walk(word, maps, 0)) if state == 3)
                self.assertEqual(next_act(ratio, maps, 0, last, [3]), last)
                self.assertIsNone(next_act(ratio, maps, 0, last + 1, [3]))
            self.assertIsNone(next_act(ratio, maps, 0, HUGE, [0, 1, 2]))

    def test_a_long_while(self):
        # 20 states that are left one by one.
        maps = falling(21)
        for ratio in ROOTS + FRACTIONS:
            self.assertEqual(occurring(ratio, maps, 0), list(range(21)))
            self.assertEqual(occurring(ratio, maps, 7), list(range(7, 21)))
            self.assertEqual(lasting(ratio, maps, 0), [20])

    def test_fractions_of_long_rounds(self):
        for ratio in LARGE_FRACTIONS:
            maps = ((1, 2, 2, 3), (0, 0, 0, 3))
            self.assertEqual(occurring(ratio, maps, 0), [0, 1] if ratio[0] < ratio[3] else [0, 1, 2])
            self.assertEqual(lasting(ratio, maps, 3), [3])
        # The state that only the last act of a round leads to.
        maps = ((0, 0, 0), (1, 2, 2))
        self.assertEqual(occurring((1, 0, 0, 10 ** 60), maps, 0), [0, 1, 2])

    def test_rounds_in_front_of_those_that_repeat(self):
        # Each round of a b leads one state further, up to 4 and 5, which change places.
        maps = ((0, 1, 2, 3, 4, 5), (1, 2, 3, 4, 5, 4))
        self.assertEqual(occurring(ONE, maps, 0), [0, 1, 2, 3, 4, 5])
        self.assertEqual(lasting(ONE, maps, 0), [4, 5])
        self.assertEqual(closed_sets(ONE, maps, 1, 0), ((1, 2, 3, 4, 5), ()))
        self.assertEqual(occurring(ONE, maps, 5), [4, 5])

    def test_kinds_of_maps(self):
        for ratio in ROOTS + FRACTIONS + LARGE_ROOTS + [LATE]:
            # One of the maps is constant, or both are, or both are the same, or there is one state.
            self.assertEqual(lasting(ratio, ((1, 1, 1), (2, 2, 2)), 0), [1, 2])
            self.assertEqual(occurring(ratio, ((1, 1, 1), (2, 2, 2)), 0), [0, 1, 2])
            self.assertEqual(lasting(ratio, ((1, 0, 3, 2), (1, 0, 3, 2)), 2), [2, 3])
            self.assertEqual(lasting(ratio, ((1, 2, 3, 2), (1, 2, 3, 2)), 0), [2, 3])
            self.assertEqual(occurring(ratio, ((0,), (0,)), 0), [0])
            self.assertEqual(lasting(ratio, ((0,), (0,)), 0), [0])
            self.assertEqual(lasting(ratio, ((0, 0, 2), (1, 1, 2)), 0), [0, 1])
            self.assertEqual(lasting(ratio, ((0, 0, 2), (1, 1, 2)), 2), [2])


class Next(unittest.TestCase):
    def check(self, ratio, maps, start, passed, targets, found):
        """That a target stands behind `found` acts and behind none between, as far as can be looked."""
        self.assertGreaterEqual(found, passed)
        self.assertIn(state_after(ratio, maps, start, found), targets)
        places = list(range(passed, min(found, passed + 20))) + list(range(max(passed, found - 20), found))
        for place in places:
            self.assertNotIn(state_after(ratio, maps, start, place), targets)

    def test_large_passed(self):
        rng = random.Random(137)
        for ratio in ROOTS + FRACTIONS[:9] + LARGE_ROOTS + LARGE_FRACTIONS + [LATE]:
            for _ in range(2):
                size = rng.randint(2, 9)
                maps, start = sample_maps(rng, size), rng.randrange(size)
                targets = [rng.choice(lasting(ratio, maps, start))]
                for passed in (10 ** 40, HUGE, HUGE - 1, rng.randrange(HUGE)):
                    found = next_act(ratio, maps, start, passed, targets)
                    self.check(ratio, maps, start, passed, targets, found)

    def test_every_act_between(self):
        # Far from the beginning, each act that is found is passed and the search goes on.
        rng = random.Random(138)
        for ratio in ROOTS[:6] + FRACTIONS[5:8] + [LATE]:
            maps, start = sample_maps(rng, 4), rng.randrange(4)
            targets = [rng.choice(lasting(ratio, maps, start))]
            begin = rng.randrange(HUGE)
            row = [state_after(ratio, maps, start, begin + more) for more in range(100)]
            standing = [begin + more for more in range(100) if row[more] in targets]
            passed = begin
            for expected in standing:
                self.assertEqual(next_act(ratio, maps, start, passed, targets), expected)
                passed = expected + 1

    def test_rare(self):
        # A row of a's or of b's that is as long as it ever gets: the only one that leads to the last state.
        for ratio in (number_of(((0, 1), (5, 7))), number_of(((3,), (1, 9))), number_of(((1, 2, 11), (1,)))):
            word = acts(ratio, LONG)
            for worker in "ab":
                longest = max(len(part) for part in word.split("b" if worker == "a" else "a"))
                up = tuple(min(state + 1, longest) for state in range(longest + 1))
                maps = (up, (0,) * (longest + 1))
                maps = maps if worker == "a" else maps[::-1]
                row = walk(word, maps, 0)
                for passed in (0, 1, 2, 100, 333):
                    self.assertEqual(next_act(ratio, maps, 0, passed, [longest]), row.index(longest, passed))

    def test_late_but_met(self):
        # Counted modulo 144, the states come in turn.
        for ratio in ROOTS + LARGE_ROOTS[:1] + [LATE]:
            maps = (tuple((state + 1) % 144 for state in range(144)), tuple(range(144)))
            row = walk(acts(ratio, 2000), maps, 0)
            expected = row.index(143) if 143 in row else None
            found = next_act(ratio, maps, 0, 0, [143])
            if expected is None:
                self.check(ratio, maps, 0, 0, [143], found)
            else:
                self.assertEqual(found, expected)
            self.assertEqual(lasting(ratio, maps, 0), list(range(144)))

    def test_fractions_of_long_rounds(self):
        # The only b's are at the ends of the rounds.
        ratio = (10 ** 60, 0, 0, 1)
        maps = ((0, 1, 2), (1, 2, 0))
        self.assertEqual([next_act(ratio, maps, 0, 0, [state]) for state in (0, 1, 2)],
                         [0, 10 ** 60 + 1, 2 * (10 ** 60 + 1)])
        self.assertEqual(next_act(ratio, maps, 0, 10 ** 60 + 1, [0]), 3 * (10 ** 60 + 1))
        self.assertEqual(next_act(ratio, maps, 0, 10 ** 60, [0]), 10 ** 60)
        self.assertEqual(next_act(ratio, maps, 0, 10 ** 200, [2]),
                         ((10 ** 200 // (10 ** 60 + 1) - 2) // 3 * 3 + 5) * (10 ** 60 + 1)
                         if 10 ** 200 // (10 ** 60 + 1) % 3 != 2 else 10 ** 200)
        self.assertEqual(next_act((1, 0, 0, 10 ** 60), maps[::-1], 0, 0, [1]), 10 ** 60)

    def test_targets(self):
        maps = ((1, 2, 0, 3), (0, 0, 1, 3))
        for ratio in ROOTS + FRACTIONS + [LATE]:
            row = walk(beginning(ratio, 400), maps, 0)
            for passed in (0, 1, 5, 100):
                self.assertIsNone(next_act(ratio, maps, 0, passed, []))
                self.assertIsNone(next_act(ratio, maps, 0, passed, ()))
                self.assertIsNone(next_act(ratio, maps, 0, passed, [3]))
                self.assertEqual(next_act(ratio, maps, 0, passed, [0, 1, 2, 3]), passed)
                expected = min(row.index(1, passed), row.index(0, passed))
                for targets in ([0, 1], [1, 0], (1, 0), [0, 1, 1, 0], [3, 1, 0]):
                    self.assertEqual(next_act(ratio, maps, 0, passed, targets), expected)
            self.assertIsNone(next_act(ratio, maps, 0, HUGE, []))
            self.assertEqual(next_act(ratio, maps, 0, HUGE, (0, 1, 2)), HUGE)

    def test_the_start(self):
        # It stands behind 0 acts, and need not stand again.
        maps = ((1, 2, 1), (2, 1, 1))
        for ratio in ROOTS + FRACTIONS:
            self.assertEqual(next_act(ratio, maps, 0, 0, [0]), 0)
            self.assertIsNone(next_act(ratio, maps, 0, 1, [0]))
            self.assertEqual(next_act(ratio, maps, 0, 1, [0, 1, 2]), 1)

    def test_kind_of_value(self):
        self.assertIs(type(next_act(GOLDEN, ((1, 0), (0, 1)), 0, 3, [1])), int)


class Never(unittest.TestCase):
    def test_known(self):
        maps = ((1, 0, 2), (0, 1, 2))
        self.assertEqual(never(GOLDEN, maps, 0, [2]), (1, (0, 1), (0, 1)))
        self.assertIsNone(never(GOLDEN, maps, 0, [1]))
        self.assertIsNone(never(GOLDEN, maps, 0, [0]))
        self.assertEqual(never(ONE, maps, 0, [2]), (0, (0, 1), ()))
        # Two a's stand side by side, but not three; two b's never do.
        self.assertEqual(never(GOLDEN, ((1, 2, 3, 3), (0, 0, 0, 0)), 0, [3]), (1, (0,), (1,)))
        self.assertEqual(never(GOLDEN, ((0, 0, 0, 0), (1, 2, 3, 3)), 0, [2]), (1, (1,), (0,)))

    def test_a_higher_level(self):
        # The states count how often ab has just been repeated: 6 stands behind ababab. At level 1,
        # where the words are ab and a, ab could be repeated for ever.
        maps = ((1, 1, 3, 1, 5, 1, 1), (0, 2, 0, 4, 0, 6, 0))
        self.assertEqual(closed_sets(GOLDEN, maps, 0, 1), ((2, 4, 6), (1, 3, 5)))
        self.assertEqual(never(GOLDEN, maps, 0, [6]), (2, (3, 5), (2,)))
        # root 2 begins ababaababaab ababa
        self.assertIsNone(never((0, 1, 2, 1), maps, 0, [6]))
        self.assertEqual(next_act((0, 1, 2, 1), maps, 0, 0, [6]), 16)

    def test_least_level(self):
        rng = random.Random(139)
        levels = {}
        for _ in range(600):
            ratio, size = rng.choice(ROOTS), rng.randint(2, 9)
            maps, start = sample_maps(rng, size), rng.randrange(size)
            others = [state for state in range(size) if state not in occurring(ratio, maps, start)]
            targets = rng.sample(others, rng.randint(0, len(others)))
            level, upper, lower = found = never(ratio, maps, start, targets)
            self.assertEqual((upper, lower), closed_sets(ratio, maps, start, level))
            self.assertTrue(shows_never(ratio, maps, start, targets, found))
            if level < 7:
                self.assertTrue(is_proof(ratio, maps, start, targets, found))
            for less in range(1, level):
                sets = closed_sets(ratio, maps, start, less)
                self.assertFalse(shows_never(ratio, maps, start, targets, (less,) + sets))
                if less < 5:
                    self.assertFalse(is_proof(ratio, maps, start, targets, (less,) + sets))
            levels[level] = levels.get(level, 0) + 1
        # The samples need different levels.
        self.assertGreater(len(levels), 2)

    def test_none_where_a_target_stands(self):
        rng = random.Random(140)
        for _ in range(300):
            ratio, maps, start = parts(rng, 9)
            for state in occurring(ratio, maps, start):
                self.assertIsNone(never(ratio, maps, start, [state]))
            self.assertIsNone(never(ratio, maps, start, list(range(len(maps[0])))))

    def test_fractions(self):
        rng = random.Random(141)
        for _ in range(300):
            ratio, size = rng.choice(FRACTIONS), rng.randint(2, 9)
            maps, start = sample_maps(rng, size), rng.randrange(size)
            others = [state for state in range(size) if state not in occurring(ratio, maps, start)]
            targets = tuple(rng.sample(others, rng.randint(0, len(others))))
            found = never(ratio, maps, start, targets)
            self.assertEqual(found, (0,) + closed_sets(ratio, maps, start, 0))
            self.assertTrue(is_proof(ratio, maps, start, targets, found))
            self.assertTrue(shows_never(ratio, maps, start, targets, found))

    def test_no_targets(self):
        for ratio in ROOTS:
            maps = ((1, 2, 0), (0, 0, 0))
            self.assertEqual(never(ratio, maps, 0, []), (1,) + closed_sets(ratio, maps, 0, 1))
        self.assertEqual(never(ONE, ((1, 2, 0), (0, 0, 0)), 0, ()), (0, (0,), ()))
        self.assertEqual(never(GOLDEN, ((0,), (0,)), 0, []), (1, (0,), (0,)))
        self.assertIsNone(never(GOLDEN, ((0,), (0,)), 0, [0]))

    def test_other_ratios(self):
        rng = random.Random(142)
        for ratio in LARGE_ROOTS + LARGE_FRACTIONS + [LATE]:
            for size in (3, 12, 144):
                for _ in range(5):
                    maps, start = sample_maps(rng, size), rng.randrange(size)
                    met = occurring(ratio, maps, start)
                    for targets in ([state for state in range(size) if state not in met], [rng.randrange(size)]):
                        found = never(ratio, maps, start, targets)
                        self.assertEqual(found is None, any(state in met for state in targets))
                        self.assertEqual(next_act(ratio, maps, start, 0, targets) is None, found is not None)
                        if found is not None:
                            self.assertTrue(shows_never(ratio, maps, start, targets, found))

    def test_kinds_of_values(self):
        for ratio in (GOLDEN, ONE):
            level, upper, lower = found = never(ratio, ((1, 0, 2), (0, 1, 2)), 0, [2])
            self.assertEqual([type(part) for part in (found, level, upper, lower)], [tuple, int, tuple, tuple])


class Shows(unittest.TestCase):
    MAPS = ((1, 0, 2), (0, 1, 2))

    def test_known(self):
        self.assertIs(shows_never(GOLDEN, self.MAPS, 0, [2], (1, (0, 1), (0, 1))), True)
        self.assertIs(shows_never(GOLDEN, self.MAPS, 0, [2], (1, (1,), (0,))), False)
        self.assertIs(shows_never(ONE, self.MAPS, 0, [2], (0, (0, 1), ())), True)

    def test_larger_sets(self):
        # 3 and 4 are not reached, and change places.
        maps = ((1, 0, 2, 4, 3), (0, 1, 2, 4, 3))
        for level in (1, 2, 3, 1000):
            for upper, lower in [((0, 1), (0, 1)), ((0, 1, 3, 4), (0, 1, 3, 4)), ((0, 1), (0, 1, 3, 4))]:
                expected = set(lower) <= set(upper)
                self.assertIs(shows_never(GOLDEN, maps, 0, [2], (level, upper, lower)), expected)
            self.assertFalse(shows_never(GOLDEN, maps, 0, [2], (level, (0, 1, 3), (0, 1))))
            self.assertFalse(shows_never(GOLDEN, maps, 0, [2], (level, (0, 1, 2), (0, 1, 2))))
            # A set that may be larger, though a target could stand there if the run were in it.
            self.assertFalse(shows_never(GOLDEN, maps, 0, [3], (level, (0, 1, 3, 4), (0, 1, 3, 4))))
            self.assertTrue(shows_never(GOLDEN, maps, 0, [3], (level, (0, 1), (0, 1))))
        for upper, expected in [((0, 1), True), ((0, 1, 3, 4), True), ((0, 1, 3), True), ((0, 3), False),
                                ((1,), False)]:
            self.assertIs(shows_never(ONE, ((1, 0, 2, 3, 4), (0, 1, 2, 3, 4)), 0, [2], (0, upper, ())), expected)

    def test_refused(self):
        for level in (1, 2, 5):
            for upper, lower in [((), ()), ((0, 1), ()), ((), (0, 1)), ((0,), (0, 1)), ((1,), (0, 1)), ((0, 1), (0,)),
                                 ((0, 1), (1,)), ((0, 1, 2), (0, 1)), ((0, 1), (0, 1, 2))]:
                self.assertIs(shows_never(GOLDEN, self.MAPS, 0, [2], (level, upper, lower)), False)
        for upper in ((), (0,), (1,), (0, 1, 2), (2,)):
            self.assertIs(shows_never(ONE, self.MAPS, 0, [2], (0, upper, ())), False)

    def test_the_start_is_a_target(self):
        # It does not stand behind any act.
        maps = ((1, 1, 1), (2, 2, 2))
        for certificate in [(1, (2,), (1,)), (1, (1, 2), (1, 2)), (2, (1,), (2,))]:
            self.assertFalse(shows_never(GOLDEN, maps, 0, [0], certificate))
            self.assertFalse(shows_never(GOLDEN, maps, 0, (0,), certificate))
        self.assertTrue(shows_never(GOLDEN, maps, 1, [0], (1, (2,), (1,))))
        self.assertFalse(shows_never(ONE, maps, 0, [0], (0, (0, 2), ())))
        self.assertFalse(shows_never(ONE, maps, 0, [0], (0, (2,), ())))
        self.assertTrue(shows_never(ONE, maps, 2, [0], (0, (2,), ())))
        # For a fraction, the start itself is in U.
        self.assertFalse(shows_never(ONE, maps, 1, [0], (0, (2,), ())))

    def test_within_the_first_word(self):
        # 1 stands only behind the first act; U and W hold nothing of it.
        maps = ((1, 2, 2), (2, 2, 2))
        for level in (1, 2, 3):
            self.assertFalse(shows_never(GOLDEN, maps, 0, [1], (level, (2,), (2,))))
            self.assertTrue(shows_never(GOLDEN, maps, 2, [1], (level, (2,), (2,))))
            self.assertTrue(shows_never(GOLDEN, maps, 1, [0], (level, (2,), (2,))))
        self.assertFalse(shows_never(ONE, maps, 0, [1], (0, (0, 2), ())))

    def test_certificates_of_the_other_kind(self):
        # Level 0 is that of fractions, for which W is empty.
        for upper, lower in [((0, 1), (0, 1)), ((0, 1), ())]:
            self.assertIs(shows_never(GOLDEN, self.MAPS, 0, [2], (0, upper, lower)), False)
            self.assertIs(shows_never(ONE, self.MAPS, 0, [2], (1, upper, lower)), False)
        self.assertIs(shows_never(ONE, self.MAPS, 0, [2], (0, (0, 1), (0, 1))), False)
        self.assertIs(shows_never(GOLDEN, self.MAPS, 0, [2], (1, (0, 1), ())), False)

    def test_each_condition(self):
        """Against point 13 by the words themselves, for sets at random."""
        rng = random.Random(143)
        seen = {True: 0, False: 0}
        for _ in range(1500):
            ratio, maps, start = parts(rng, 4)
            size = len(maps[0])
            level = rng.randint(1, 4) if ratio[1] != 0 else 0
            upper, lower = closed_sets(ratio, maps, start, level)
            upper = [state for state in range(size) if (state in upper) ^ (rng.random() < 0.1)]
            lower = [state for state in range(size) if (state in lower) ^ (rng.random() < 0.1)]
            certificate = (level, tuple(upper), tuple(lower) if level > 0 else ())
            others = [state for state in range(size) if state not in occurring(ratio, maps, start)]
            targets = others[:1] if rng.random() < 0.7 else [state for state in range(size) if rng.random() < 0.2]
            expected = is_proof(ratio, maps, start, targets, certificate)
            seen[expected] += 1
            self.assertIs(shows_never(ratio, maps, start, targets, certificate), expected)
        self.assertGreater(min(seen.values()), 200)

    def test_another_level(self):
        rng = random.Random(144)
        refused = 0
        for _ in range(300):
            ratio, size = rng.choice(ROOTS), rng.randint(2, 7)
            maps, start = sample_maps(rng, size), rng.randrange(size)
            others = [state for state in range(size) if state not in occurring(ratio, maps, start)]
            certificate = never(ratio, maps, start, others)
            for level in range(1, 6):
                other = (level,) + certificate[1:]
                expected = is_proof(ratio, maps, start, others, other)
                self.assertIs(shows_never(ratio, maps, start, others, other), expected)
                refused += not expected
        self.assertGreater(refused, 50)

    def test_large_levels(self):
        rng = random.Random(145)
        for ratio in ROOTS[:4] + LARGE_ROOTS + [LATE]:
            for size in (5, 144):
                maps, start = sample_maps(rng, size), rng.randrange(size)
                others = [state for state in range(size) if state not in occurring(ratio, maps, start)]
                level = stable_level(ratio, maps)
                for level in (level, level + 1, 999, 1000):
                    upper, lower = closed_sets(ratio, maps, start, level)
                    self.assertTrue(shows_never(ratio, maps, start, others, (level, upper, lower)))
                    self.assertFalse(shows_never(ratio, maps, start, others, (level, upper[1:], lower)))
                    self.assertFalse(shows_never(ratio, maps, start, others, (level, upper, lower[1:])))
                    met = lasting(ratio, maps, start)
                    self.assertFalse(shows_never(ratio, maps, start, met[:1], (level, upper, lower)))


class LargeQuotients(unittest.TestCase):
    """A ratio all of whose quotients have hundreds of digits."""

    def test_each_function(self):
        ratio = GOLDEN
        for _ in range(10):
            ratio = times(ratio, ratio)
        ratio = times(ratio, GOLDEN)
        row = quotients(ratio, 50)
        self.assertGreater(min(row), 10 ** 200)
        rng = random.Random(146)
        for _ in range(10):
            maps, start = sample_maps(rng, 9), rng.randrange(9)
            words = standard_maps(ratio, maps, 50)
            level = stable_level(ratio, maps)
            self.assertTrue(is_stable(words, level))
            self.assertFalse(level > 1 and is_stable(words, level - 1))
            self.assertEqual(closed_sets(ratio, maps, start, 50), closure(words[49], words[50], start))
            found = visits(ratio, maps, 50, start)
            self.assertEqual(sum(found.values()), lengths(ratio, 50)[50])
            met = occurring(ratio, maps, start)
            self.assertEqual(sorted(set(found) | {start}), met)
            for state in range(9):
                act = next_act(ratio, maps, start, 0, [state])
                self.assertEqual(act is None, state not in met)
                self.assertEqual(never(ratio, maps, start, [state]) is None, state in met)
                if act is not None:
                    self.assertEqual(state_after(ratio, maps, start, act), state)


class Arguments(unittest.TestCase):
    def test_arguments_stay(self):
        for ratio in (GOLDEN, (8, 0, 0, 13)):
            level = 3 if ratio == GOLDEN else 0
            maps = ((1, 2, 0, 3), (0, 0, 0, 3))
            targets = [3, 2, 3]
            certificate = (level, (0, 1), (1,))
            kept = copy.deepcopy((ratio, maps, targets, certificate))
            closed_sets(ratio, maps, 0, level), visits(ratio, maps, level, 0)
            occurring(ratio, maps, 0), lasting(ratio, maps, 0)
            next_act(ratio, maps, 0, 5, targets), never(ratio, maps, 0, targets)
            shows_never(ratio, maps, 0, targets, certificate)
            self.assertEqual((ratio, maps, targets, certificate), kept)

    def test_new_each_time(self):
        for ratio in (GOLDEN, (8, 0, 0, 13)):
            level = 3 if ratio == GOLDEN else 0
            maps = ((1, 2, 0), (0, 0, 0))
            for function, extra in ((occurring, (0,)), (lasting, (0,)), (visits, (level, 0))):
                found = function(ratio, maps, *extra)
                kept = copy.copy(found)
                self.assertIs(type(found), dict if function is visits else list)
                found.clear()
                self.assertEqual(function(ratio, maps, *extra), kept)


if __name__ == "__main__":
    unittest.main()

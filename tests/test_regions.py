"""Regions and cells: points 15 and 16 and the interface's stage 8."""

import copy
import random
import unittest
from fractions import Fraction

from twospeeds.numbers import compare, number, over
from twospeeds.patterns import never, next_act
from twospeeds.regions import borders, cell_of, region_of, regions, verdicts
from walks import (FRACTIONS, GOLDEN, LARGE_FRACTIONS, LARGE_ROOTS, LATE, ONE, ROOTS, map_of_word, merged, sample_maps,
                   sample_ratio, walk)

RATIOS = ROOTS + FRACTIONS + LARGE_ROOTS + LARGE_FRACTIONS + [LATE]


def as_number(fraction):
    return (fraction.numerator, 0, 0, fraction.denominator)


def all_borders(count):
    """The fractions of point 15, by its words."""
    found = {Fraction(i, j) for i in range(1, count + 1) for j in range(1, count + 1) if i + j <= count + 1}
    return [as_number(one) for one in sorted(found)]


def first_on(states, targets):
    return next((at for at, state in enumerate(states) if state in targets), None)


def is_in(ratio, low, high):
    return (low is None or compare(ratio, low) >= 0) and (high is None or compare(ratio, high) < 0)


def inside(rng, low, high):
    """A ratio between two borders, or at the lower one."""
    kind = rng.randrange(4)
    if kind == 0 and low is not None:
        return low
    bottom = Fraction(low[0], low[3]) if low is not None else Fraction(0)
    if high is None:
        top = bottom + rng.randint(1, 50)
    else:
        top = Fraction(high[0], high[3])
    share = Fraction(rng.randint(1, 10 ** 6 - 1), 10 ** 6)
    # Just below the upper border, and just above the lower one, too.
    if kind == 1:
        share = 1 - Fraction(1, 10 ** 30)
    elif kind == 2:
        share = Fraction(1, 10 ** 30)
    place = bottom + (top - bottom) * share
    found = as_number(place)
    if rng.random() < 0.5:
        # A root beside it, by much less than there is room.
        found = number(place.numerator * 10 ** 80, rng.choice((-1, 1)), 2, place.denominator * 10 ** 80)
    return found if is_in(found, low, high) else as_number(place)


class Borders(unittest.TestCase):
    def test_known(self):
        self.assertEqual(borders(1), [(1, 0, 0, 1)])
        self.assertEqual(borders(2), [(1, 0, 0, 2), (1, 0, 0, 1), (2, 0, 0, 1)])
        self.assertEqual(borders(3), [(1, 0, 0, 3), (1, 0, 0, 2), (1, 0, 0, 1), (2, 0, 0, 1), (3, 0, 0, 1)])
        self.assertEqual(borders(4), [(1, 0, 0, 4), (1, 0, 0, 3), (1, 0, 0, 2), (2, 0, 0, 3), (1, 0, 0, 1),
                                      (3, 0, 0, 2), (2, 0, 0, 1), (3, 0, 0, 1), (4, 0, 0, 1)])

    def test_all(self):
        for count in range(1, 46):
            found = borders(count)
            self.assertIs(type(found), list)
            self.assertEqual(found, all_borders(count))

    def test_new_each_time(self):
        found = borders(5)
        found.clear()
        self.assertEqual(len(borders(5)), 11)

    def test_the_order_changes_there_alone(self):
        # Between neighbours it is the same, and at each border there is another one.
        rng = random.Random(161)
        for count in (1, 2, 3, 7, 12):
            rows = [None] + borders(count) + [None]
            words = []
            for low, high in zip(rows, rows[1:]):
                found = {merged(inside(rng, low, high), count) for _ in range(8)}
                self.assertEqual(len(found), 1)
                words += found
            for one, other in zip(words, words[1:]):
                self.assertNotEqual(one, other)


class Regions(unittest.TestCase):
    def check(self, rng, maps, start, targets, count):
        found = regions(maps, start, targets, count)
        self.assertIs(type(found), tuple)
        self.assertIsNone(found[0][0])
        self.assertIsNone(found[-1][1])
        edges = borders(count)
        for part, following in zip(found, found[1:]):
            self.assertEqual(part[1], following[0])
            self.assertIn(part[1], edges)
            self.assertNotEqual(part[2], following[2])
        for low, high in zip([None] + edges, edges + [None]):
            for _ in range(2):
                ratio = inside(rng, low, high)
                expected = first_on(walk(merged(ratio, count), maps, start), targets)
                parts = [part for part in found if is_in(ratio, part[0], part[1])]
                self.assertEqual([part[2] for part in parts], [expected])
                self.assertEqual(region_of(ratio, found), parts[0])
        return found

    def test_known(self):
        # 1 stands behind the first a: from 1 on at once, from 1/2 on behind a b, and so on.
        maps = ((1, 1), (0, 1))
        self.assertEqual(regions(maps, 0, [1], 1), ((None, ONE, None), (ONE, None, 1)))
        self.assertEqual(regions(maps, 0, [1], 3),
                         ((None, (1, 0, 0, 3), None), ((1, 0, 0, 3), (1, 0, 0, 2), 3), ((1, 0, 0, 2), ONE, 2),
                          (ONE, None, 1)))
        # The first b stands behind as many a's as the ratio has in it.
        maps = ((0, 1), (1, 1))
        self.assertEqual(regions(maps, 0, [1], 3),
                         ((None, ONE, 1), (ONE, (2, 0, 0, 1), 2), ((2, 0, 0, 1), (3, 0, 0, 1), 3),
                          ((3, 0, 0, 1), None, None)))

    def test_samples(self):
        rng = random.Random(162)
        for count in [1, 1, 2, 2, 3, 4, 5, 6, 8, 10, 13] * 8:
            size = rng.randint(1, 6)
            maps, start = sample_maps(rng, size), rng.randrange(size)
            self.check(rng, maps, start, [state for state in range(size) if rng.random() < 0.4], count)

    def test_count_40(self):
        rng = random.Random(163)
        for size in (3, 6, 12):
            maps, start = sample_maps(rng, size), rng.randrange(size)
            self.check(rng, maps, start, [rng.randrange(size)], 40)
        # A state that stands late, if at all: behind ten b's without an a among the last two acts.
        up = tuple(min(state + 1, 10) for state in range(11))
        self.assertGreater(len(self.check(rng, (tuple(max(state - 1, 0) for state in range(11)), up), 0, [10], 40)), 10)

    def test_targets(self):
        maps = ((1, 2, 0), (0, 0, 1))
        for count in (1, 2, 40):
            self.assertEqual(regions(maps, 0, [], count), ((None, None, None),))
            self.assertEqual(regions(maps, 0, [0, 1, 2], count), ((None, None, 0),))
            self.assertEqual(regions(maps, 2, [1, 2, 2], count), ((None, None, 0),))
            self.assertEqual(regions(maps, 0, (1, 2), count), regions(maps, 0, [2, 1, 1], count))

    def test_neighbours_with_the_same_first(self):
        # Behind two acts, whatever they are.
        maps = ((1, 2, 2), (1, 2, 2))
        for count in (2, 5, 40):
            self.assertEqual(regions(maps, 0, [2], count), ((None, None, 2),))
        self.assertEqual(regions(maps, 0, [2], 1), ((None, None, None),))

    def test_next_act(self):
        rng = random.Random(164)
        for _ in range(60):
            size = rng.randint(2, 8)
            maps, start, targets = sample_maps(rng, size), rng.randrange(size), [rng.randrange(size)]
            parts = regions(maps, start, targets, 20)
            for ratio in RATIOS:
                found = next_act(ratio, maps, start, 0, targets)
                first = region_of(ratio, parts)[2]
                self.assertEqual(first, found if found is not None and found <= 20 else None)


class RegionOf(unittest.TestCase):
    PARTS = ((None, (1, 0, 0, 2), "one"), ((1, 0, 0, 2), (3, 0, 0, 2), None), ((3, 0, 0, 2), (5, 0, 0, 1), 7),
             ((5, 0, 0, 1), None, "two"))

    def test_places(self):
        for ratio, index in [((1, 0, 0, 10 ** 60), 0), ((1, 0, 0, 3), 0), ((0, 1, 2, 4), 0), ((1, 0, 0, 2), 1),
                             ((10 ** 60 - 1, 0, 0, 2 * 10 ** 60), 0), ((10 ** 60, 1, 2, 2 * 10 ** 60), 1),
                             ((10 ** 60, -1, 2, 2 * 10 ** 60), 0), (ONE, 1), ((0, 1, 2, 1), 1), ((3, 0, 0, 2), 2),
                             (GOLDEN, 2), ((3 * 10 ** 60, -1, 3, 2 * 10 ** 60), 1), ((5, 0, 0, 1), 3),
                             ((0, 1, 26, 1), 3), ((0, 1, 23, 1), 2), ((10 ** 60, 0, 0, 1), 3),
                             ((10 ** 60, 1, 3, 1), 3)]:
            with self.subTest(ratio):
                self.assertEqual(region_of(ratio, self.PARTS), self.PARTS[index])

    def test_one_region(self):
        for ratio in RATIOS:
            self.assertEqual(region_of(ratio, ((None, None, 0),)), (None, None, 0))

    def test_kind_of_value(self):
        self.assertIs(type(region_of(GOLDEN, self.PARTS)), tuple)


def divided(ratio, depth):
    """The cell of a depth by the words of point 16."""
    low, high, x, y = (0, 1), (1, 0), "a", "b"
    for _ in range(depth):
        middle = (low[0] + high[0], low[1] + high[1])
        if compare(ratio, (middle[0], 0, 0, middle[1])) < 0:
            high, x, y = middle, y + x, y
        else:
            low, x, y = middle, x, x + y
    return low, high, x, y


class Cells(unittest.TestCase):
    def check(self, ratio, depth):
        low, high, x, y = found = cell_of(ratio, depth)
        self.assertIs(type(found), tuple)
        expected_low, expected_high, expected_x, expected_y = divided(ratio, depth)
        self.assertEqual(low, None if expected_low == (0, 1) else (expected_low[0], 0, 0, expected_low[1]))
        self.assertEqual(high, None if expected_high == (1, 0) else (expected_high[0], 0, 0, expected_high[1]))
        self.assertEqual((x, y), (expected_x, expected_y))
        self.assertTrue(is_in(ratio, low, high))
        # The order begins with xy without its last two acts, and consists of words x and y.
        length = len(x) + len(y)
        self.assertEqual(merged(ratio, length - 2), (x + y)[:-2])
        self.assertTrue(consists(merged(ratio, 3 * length), x, y))

    def test_known(self):
        for ratio in RATIOS:
            self.assertEqual(cell_of(ratio, 0), (None, None, "a", "b"))
        self.assertEqual(cell_of(GOLDEN, 1), (ONE, None, "a", "ab"))
        self.assertEqual(cell_of(GOLDEN, 2), (ONE, (2, 0, 0, 1), "aba", "ab"))
        self.assertEqual(cell_of((1, 0, 0, 2), 1), (None, ONE, "ba", "b"))
        self.assertEqual(cell_of((1, 0, 0, 2), 2), ((1, 0, 0, 2), ONE, "ba", "bab"))
        self.assertEqual(cell_of((1, 0, 0, 3), 2), (None, (1, 0, 0, 2), "bba", "b"))
        self.assertEqual(cell_of(ONE, 1), (ONE, None, "a", "ab"))
        self.assertEqual(cell_of((10 ** 60, 0, 0, 1), 14), ((14, 0, 0, 1), None, "a", "a" * 14 + "b"))
        self.assertEqual(cell_of((1, 0, 0, 10 ** 60), 14), (None, (1, 0, 0, 14), "b" * 14 + "a", "b"))

    def test_depths(self):
        for ratio in RATIOS:
            for depth in range(9):
                self.check(ratio, depth)
        for ratio in ROOTS + FRACTIONS[:6] + LARGE_ROOTS[:1] + [LATE]:
            self.check(ratio, 14)

    def test_borders(self):
        for ratio in borders(9):
            for depth in range(8):
                self.check(ratio, depth)
                below = over((ratio[0] * 10 ** 40 - 1, 0, 0, 10 ** 40), (ratio[3], 0, 0, 1))
                self.check(below, depth)

    def test_samples(self):
        rng = random.Random(165)
        for turn in range(60):
            self.check(sample_ratio(rng, turn % 2 == 0), rng.randint(0, 9))


def consists(word, x, y):
    """Whether a word is the beginning of a word of words x and y."""
    places = {0}
    for at in range(len(word)):
        if at in places:
            for part in (x, y):
                if part.startswith(word[at:]):
                    return True
                if word.startswith(part, at):
                    places.add(at + len(part))
    return len(word) in places


def verdict(maps, start, targets, x, y, last):
    """The verdict of a cell by the words of point 16, None if it is divided."""
    first = first_on(walk((x + y)[:-2], maps, start), targets)
    if first is not None:
        return first
    states = {start}
    while True:
        more = states | {map_of_word(word, maps)[state] for word in (x, y) for state in states}
        if more == states:
            break
        states = more
    if not any(state in targets for word in (x, y) for one in states for state in walk(word, maps, one)[1:]):
        return "never"
    return "open" if last else None


def all_verdicts(maps, start, targets, depth):
    """The verdicts of all cells, without those that are joined: as [(low, high, verdict)] of pairs."""
    cells = [((0, 1), (1, 0), "a", "b")]
    found = []
    for done in range(depth + 1):
        following = []
        for low, high, x, y in cells:
            said = verdict(maps, start, targets, x, y, done == depth)
            if said is not None:
                found.append((low, high, said))
                continue
            middle = (low[0] + high[0], low[1] + high[1])
            following.append((low, middle, y + x, y))
            following.append((middle, high, x, x + y))
        cells = following
    return sorted(found, key=lambda part: Fraction(*part[0]))


class Verdicts(unittest.TestCase):
    def check(self, maps, start, targets, depth):
        found = verdicts(maps, start, targets, depth)
        self.assertIs(type(found), tuple)
        expected = []
        for low, high, said in all_verdicts(maps, start, targets, depth):
            low = None if low == (0, 1) else (low[0], 0, 0, low[1])
            high = None if high == (1, 0) else (high[0], 0, 0, high[1])
            if expected and expected[-1][2] == said:
                low = expected.pop()[0]
            expected.append((low, high, said))
        self.assertEqual(found, tuple(expected))
        return found

    def test_known(self):
        maps = ((1, 2, 2), (0, 0, 0))
        self.assertEqual(verdicts(maps, 0, [2], 0), ((None, None, "open"),))
        self.assertEqual(verdicts(maps, 0, [2], 1), ((None, ONE, "never"), (ONE, None, "open")))
        self.assertEqual(verdicts(maps, 0, [0], 0), ((None, None, 0),))
        self.assertEqual(verdicts(maps, 0, [0, 1, 2], 8), ((None, None, 0),))
        self.assertEqual(verdicts(maps, 0, [], 0), ((None, None, "never"),))
        self.assertEqual(verdicts(maps, 0, (), 8), ((None, None, "never"),))
        # 1 stands behind the first a: with one that comes late, the verdict is open at no depth but 0.
        self.assertEqual(verdicts(((1, 1), (0, 1)), 0, [1], 2),
                         ((None, (1, 0, 0, 2), "open"), ((1, 0, 0, 2), ONE, 2), (ONE, None, 1)))

    def test_samples(self):
        rng = random.Random(166)
        said = {}
        for turn in range(300):
            size = rng.randint(1, 7)
            maps, start = sample_maps(rng, size), rng.randrange(size)
            targets = [state for state in range(size) if rng.random() < 0.3]
            for part in self.check(maps, start, targets, turn % 9):
                kind = part[2] if type(part[2]) is str else "number"
                said[kind] = said.get(kind, 0) + 1
        self.assertEqual(sorted(said), ["never", "number", "open"])
        self.assertGreater(min(said.values()), 50)

    def test_next_act(self):
        rng = random.Random(167)
        for _ in range(60):
            size = rng.randint(2, 6)
            maps, start, targets = sample_maps(rng, size), rng.randrange(size), [rng.randrange(size)]
            parts = verdicts(maps, start, targets, 6)
            for ratio in RATIOS:
                said = region_of(ratio, parts)[2]
                if said == "never":
                    self.assertIsNotNone(never(ratio, maps, start, targets))
                elif said != "open":
                    self.assertEqual(next_act(ratio, maps, start, 0, targets), said)

    def test_deeper_ones_agree(self):
        rng = random.Random(168)
        for _ in range(60):
            size = rng.randint(2, 6)
            maps, start, targets = sample_maps(rng, size), rng.randrange(size), [rng.randrange(size)]
            rows = [verdicts(maps, start, targets, depth) for depth in range(9)]
            for parts, deeper in zip(rows, rows[1:]):
                for ratio in RATIOS:
                    said = region_of(ratio, parts)[2]
                    if said != "open":
                        self.assertEqual(region_of(ratio, deeper)[2], said)

    def test_many_states(self):
        rng = random.Random(169)
        for _ in range(3):
            maps = sample_maps(rng, 144)
            self.check(maps, 3, [rng.randrange(144)], 4)
        up = tuple((state + 1) % 144 for state in range(144))
        self.assertEqual(verdicts((up, up), 0, [1, 143], 8), ((None, None, 1),))

    def test_region_of(self):
        parts = verdicts(((1, 2, 2), (0, 0, 0)), 0, [2], 2)
        self.assertEqual(region_of(GOLDEN, parts), (ONE, (2, 0, 0, 1), "open"))
        self.assertEqual(region_of((1, 0, 0, 7), parts), (None, ONE, "never"))
        self.assertEqual(region_of((2, 0, 0, 1), parts), ((2, 0, 0, 1), None, 2))


class Arguments(unittest.TestCase):
    def test_arguments_stay(self):
        maps, targets = ((1, 2, 0), (0, 0, 1)), [2, 2]
        kept = copy.deepcopy((maps, targets))
        parts = regions(maps, 0, targets, 6)
        said = verdicts(maps, 0, targets, 4)
        kept_parts = copy.deepcopy((parts, said))
        region_of(GOLDEN, parts), region_of(GOLDEN, said), cell_of(GOLDEN, 5)
        self.assertEqual((maps, targets), kept)
        self.assertEqual((parts, said), kept_parts)


if __name__ == "__main__":
    unittest.main()

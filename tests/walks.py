"""Yardsticks of the tests: the order of the acts by their times, and walks along it."""

from functools import lru_cache

from twospeeds.numbers import compare, number, over
from twospeeds.quotients import number_of, quotients

GOLDEN = (1, 1, 5, 2)
ONE = (1, 0, 0, 1)
ZERO = (0, 0, 0, 1)

ROOTS = [GOLDEN, (-1, 1, 5, 2), (0, 1, 2, 1), (0, 1, 2, 2), (2, -1, 2, 1), (1, 1, 3, 1), (-1, 1, 3, 2), (7, 3, 11, 13),
         (0, 1, 10, 1), number_of(((0, 2), (1, 2, 3))), number_of(((0, 1, 1), (3,))), number_of(((2, 1), (1, 1, 4)))]
FRACTIONS = [ONE, (2, 0, 0, 1), (1, 0, 0, 2), (5, 0, 0, 1), (1, 0, 0, 5), (3, 0, 0, 2), (2, 0, 0, 3), (7, 0, 0, 5),
             (5, 0, 0, 7), (13, 0, 0, 8), (8, 0, 0, 13), (31, 0, 0, 17)]
LARGE_ROOTS = [(10 ** 300 + 7, 10 ** 299 + 1, 7, 10 ** 300 + 3), (10 ** 60, 1, 2, 1), over(ONE, (10 ** 60, 1, 2, 1))]
# The quotients of the last two are as many as there can be, all of them 1.
FIBONACCI = [1, 2]
while len(FIBONACCI) < 400:
    FIBONACCI.append(FIBONACCI[-1] + FIBONACCI[-2])
LARGE_FRACTIONS = [number(10 ** 200 + 9, 0, 0, 10 ** 199 + 7), number(10 ** 199 + 7, 0, 0, 10 ** 200 + 9),
                   (10 ** 60, 0, 0, 1), (1, 0, 0, 10 ** 60), (FIBONACCI[-1], 0, 0, FIBONACCI[-2]),
                   (FIBONACCI[-2], 0, 0, FIBONACCI[-3])]
# Its quotients repeat only after thousands.
LATE = (0, 1, 9999999967, 1)


def a_first(ratio, one, other):
    """Whether the time one / ratio of an a is at most the time other of a b: integers alone.

    one * s <= other * (p + q * root d), so left <= right * root d.
    """
    p, q, d, s = ratio
    left = one * s - other * p
    right = other * q
    if left <= 0 <= right:
        return True
    if right <= 0 <= left:
        return left == 0 and right * right * d == 0
    if left > 0:
        return left * left <= right * right * d
    return left * left >= right * right * d


def merged(ratio, count):
    """The word of the first count acts, one by one, by their times."""
    word = ""
    done = {"a": 0, "b": 0}
    while len(word) < count:
        worker = "a" if a_first(ratio, done["a"] + 1, done["b"] + 1) else "b"
        done[worker] += 1
        word += worker
    return word


def words(row, count):
    """The words s(0) to s(count) of the quotients in a row, by the words of point 6."""
    found = ["a", "a" * row[0] + "b"]
    while len(found) <= count:
        found.append(found[-1] * row[len(found) - 1] + found[-2])
    return found[:count + 1]


def sample_ratio(rng, root):
    """A ratio, small or large, above 1 or below."""
    while True:
        size = rng.choice([5, 30, 10 ** 25])
        q = rng.randint(-size, size) if root else 0
        s = rng.randint(1, rng.choice([3, size]))
        one = number(rng.randint(-size, size), q, rng.randint(2, rng.choice([10, 3000])), s)
        if compare(one, ZERO) == 1 and (one[1] != 0) == root:
            return one


@lru_cache(maxsize=None)
def beginning(ratio, count):
    """merged, kept."""
    return merged(ratio, count)


@lru_cache(maxsize=None)
def standard_word(ratio, level):
    """s(level), by the words of point 6."""
    return words(quotients(ratio, max(level, 1)), level)[level]


def round_word(ratio):
    """The word of the acts after which the order of a fraction repeats."""
    return beginning(ratio, ratio[0] + ratio[3])


def walk(word, maps, start):
    """The states behind 0, 1, .. all acts of a word."""
    found = [start]
    for worker in word:
        found.append(maps["ab".index(worker)][found[-1]])
    return found


def map_of_word(word, maps):
    """The map of a word of acts."""
    return tuple(walk(word, maps, state)[-1] for state in range(len(maps[0])))


def both(one, other):
    """The map that applies one map and then the other."""
    return tuple(other[state] for state in one)


def power(one, times):
    """The map that applies a map a number of times."""
    found = tuple(range(len(one)))
    for bit in bin(times)[2:]:
        found = both(found, found)
        if bit == "1":
            found = both(found, one)
    return found


def standard_maps(ratio, maps, level):
    """The maps of s(0), s(1), .. s(level)."""
    found = [maps[0]]
    before = maps[1]
    for quotient in quotients(ratio, level):
        following = both(power(found[-1], quotient), before)
        before = found[-1]
        found.append(following)
    return found


def sample_maps(rng, size):
    """maps of some states: of any kind, one to one, nearly the identity, or constant."""
    found = []
    kind = rng.randrange(6)
    for _ in range(2):
        row = list(range(size))
        if kind == 0:
            rng.shuffle(row)
        elif kind == 1:
            row = [min(state + 1, size - 1) for state in row]
            rng.shuffle(row)
        elif kind == 2:
            one, other = rng.randrange(size), rng.randrange(size)
            row[one], row[other] = row[other], row[one]
            row[rng.randrange(size)] = rng.randrange(size)
        elif kind == 3 and rng.random() < 0.5:
            row = [rng.randrange(size)] * size
        else:
            row = [rng.randrange(size) for _ in range(size)]
        found.append(tuple(row))
    return tuple(found)


def closure(before, word, start):
    """The least pair (U, W) of point 12 for the maps of s(k - 1) and s(k), by the definition."""
    upper, lower = {word[start]}, set()
    while True:
        more = upper | {word[state] for state in upper | lower}
        below = lower | {before[state] for state in upper}
        if (more, below) == (upper, lower):
            return tuple(sorted(upper)), tuple(sorted(lower))
        upper, lower = more, below


def is_proof(ratio, maps, start, targets, certificate):
    """Point 13, by walks along the words themselves."""
    level, upper, lower = certificate
    if start in targets:
        return False
    if level == 0:
        rows = [walk(round_word(ratio), maps, state) for state in upper]
        return (start in upper and all(row[-1] in upper for row in rows)
                and not any(state in targets for row in rows for state in row[1:]))
    word, before = standard_word(ratio, level), standard_word(ratio, level - 1)
    first = [walk(word, maps, start)]
    rows = [walk(word, maps, state) for state in upper + lower]
    shorter = [walk(before, maps, state) for state in upper]
    return (all(row[-1] in upper for row in first + rows) and all(row[-1] in lower for row in shorter)
            and not any(state in targets for row in first + rows + shorter for state in row[1:]))

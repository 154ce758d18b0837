"""What holds for all ratios of a range at once: regions and cells.

Fractions are pairs (numerator, denominator) inside of this file. (0, 1) stands
for no bound below, (1, 0) for no bound above.
"""

from twospeeds.numbers import compare
from twospeeds.runs import path
from twospeeds.words import joined, letter

LOWEST = (0, 1)
HIGHEST = (1, 0)


def borders(count):
    """Return the list of the fractions at which the order of the first count acts changes."""
    return [as_number(fraction) for fraction in fractions_between(LOWEST, HIGHEST, count + 1)]


def fractions_between(low, high, most):
    """Return the fractions between two neighbours whose numerator and denominator have a sum of at most most."""
    middle = middle_of(low, high)
    if middle[0] + middle[1] > most:
        return []
    return fractions_between(low, middle, most) + [middle] + fractions_between(middle, high, most)


def middle_of(low, high):
    """Return the middle of two fractions."""
    return (low[0] + high[0], low[1] + high[1])


def as_number(fraction):
    """Return a fraction in lowest terms as a number, None if it stands for no bound."""
    if fraction in (LOWEST, HIGHEST):
        return None
    return (fraction[0], 0, 0, fraction[1])


def regions(maps, start, targets, count):
    """Return the regions (low, high, first) of the run from a state."""
    rows = borders(count)
    # In front of the first border, the first count acts are those of any ratio below it.
    samples = [(1, 0, 0, count + 1)] + rows
    found = []
    for ratio, low, high in zip(samples, [None] + rows, rows + [None]):
        found.append((low, high, first_on(path(ratio, maps, start, count), targets)))
    return without_seams(found)


def first_on(states, targets):
    """Return the least index of a target on a list of states, None if there is none."""
    for at, state in enumerate(states):
        if state in targets:
            return at
    return None


def without_seams(parts):
    """Return a tuple of the parts of a list, with neighbours joined that say the same."""
    found = []
    for low, high, said in parts:
        if len(found) > 0 and found[-1][2] == said:
            low = found.pop()[0]
        found.append((low, high, said))
    return tuple(found)


def region_of(ratio, parts):
    """Return the one of some regions or verdicts that contains a ratio."""
    found = parts[0]
    for part in parts[1:]:
        if compare(ratio, part[0]) >= 0:
            found = part
    return found


def cell_of(ratio, depth):
    """Return the cell (low, high, x, y) of a depth that contains a ratio."""
    low, high = LOWEST, HIGHEST
    x, y = "a", "b"
    for _ in range(depth):
        middle = middle_of(low, high)
        if compare(ratio, as_number(middle)) >= 0:
            low, y = middle, x + y
        else:
            high, x = middle, y + x
    return (as_number(low), as_number(high), x, y)


def verdicts(maps, start, targets, depth):
    """Return the tuple of the verdicts (low, high, verdict) for all ratios."""
    if start in targets:
        return ((None, None, 0),)
    x, y = letter(maps[0], targets), letter(maps[1], targets)
    return without_seams(verdicts_between(LOWEST, HIGHEST, (x, y), start, depth))


def verdicts_between(low, high, words, start, depth):
    """Return the list of the verdicts of a cell that is divided at most depth times; start is no target."""
    x, y = words
    beginning = joined(x, y)
    first = beginning.firsts[start]
    if first is not None and first <= beginning.length - 2:
        return [(as_number(low), as_number(high), first)]
    if is_closed_off(x, y, start):
        return [(as_number(low), as_number(high), "never")]
    if depth == 0:
        return [(as_number(low), as_number(high), "open")]
    middle = middle_of(low, high)
    return (verdicts_between(low, middle, (joined(y, x), y), start, depth - 1)
            + verdicts_between(middle, high, (x, beginning), start, depth - 1))


def is_closed_off(x, y, start):
    """Return whether no target stands behind an act of x or y, in whatever order they follow each other."""
    met = {}
    waiting = [start]
    while len(waiting) > 0:
        state = waiting.pop()
        if state not in met:
            met[state] = True
            if x.firsts[state] is not None or y.firsts[state] is not None:
                return False
            waiting.append(x.leads[state])
            waiting.append(y.leads[state])
    return True

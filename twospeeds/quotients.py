"""The quotients of ratios: expansions, and the fractions that they lead to."""

from math import isqrt

from twospeeds.errors import TooMany
from twospeeds.numbers import number, over, plus, times

LIMIT = 400


def expansion(ratio):
    """Return (first, again): the quotients in front of the repetition, and one repetition."""
    if ratio[1] == 0:
        found = fraction_quotients(ratio, LIMIT + 1)
        if len(found) > LIMIT:
            raise TooMany(LIMIT)
        return (tuple(found), ())
    return root_expansion(ratio)


def root_expansion(ratio):
    """Return the expansion of a ratio with a root."""
    state, floor_root = surd_of(ratio)
    met = {}
    found = []
    while state not in met:
        if len(found) == LIMIT:
            raise TooMany(LIMIT)
        met[state] = len(found)
        quotient, state = surd_step(state, floor_root)
        found.append(quotient)
    # Equal rests have equal quotients and different ones do not, so the first
    # rest that comes again gives the shortest parts.
    cut = met[state]
    return (tuple(found[:cut]), tuple(found[cut:]))


def quotients(ratio, count):
    """Return the list of the first count quotients, or of all if there are fewer."""
    if ratio[1] == 0:
        return fraction_quotients(ratio, count)
    state, floor_root = surd_of(ratio)
    found = []
    for _ in range(count):
        quotient, state = surd_step(state, floor_root)
        found.append(quotient)
    return found


def fraction_quotients(ratio, count):
    """Return the list of the first count quotients of a fraction, or of all."""
    top = ratio[0]
    bottom = ratio[3]
    found = []
    while bottom != 0 and len(found) < count:
        found.append(top // bottom)
        top, bottom = bottom, top % bottom
    return found


def surd_of(ratio):
    """Return a ratio with a root as a state, and the integer part of its root n.

    A state (p, s, before) stands for (p + root n) / s, with s * before = n - p * p.
    """
    p, q, d, s = ratio
    if q < 0:
        p, s = -p, -s
    n = q * q * d
    if (n - p * p) % s != 0:
        # Widened by s, the form has the divisor that all further states keep.
        size = abs(s)
        p, s, n = p * size, s * size, n * size * size
    return (p, s, (n - p * p) // s), isqrt(n)


def surd_step(state, floor_root):
    """Return the first quotient of a state and the state of 1 divided by the rest."""
    p, s, before = state
    quotient = (p + floor_root) // s if s > 0 else (p + floor_root + 1) // s
    following = quotient * s - p
    # (n - following * following) // s, without the long division.
    return quotient, (following, before + quotient * (p - following), s)


def quotient_at(parts, place):
    """Return the quotient at an index of an expansion, None behind its end."""
    first, again = parts
    if place < len(first):
        return first[place]
    if len(again) == 0:
        return None
    return again[(place - len(first)) % len(again)]


def number_of(parts):
    """Return the ratio that has an expansion (first, again)."""
    first, again = parts
    before, last = fractions_of(first)[-2:]
    if len(again) == 0:
        return number(last[0], 0, 0, last[1])
    rest = repeating(again)
    top = plus(times(whole(last[0]), rest), whole(before[0]))
    bottom = plus(times(whole(last[1]), rest), whole(before[1]))
    return over(top, bottom)


def repeating(again):
    """Return the number whose quotients repeat from the first one on."""
    before, last = fractions_of(again)[-2:]
    # This is x = (last[0] * x + before[0]) / (last[1] * x + before[1]), solved for x.
    p = last[0] - before[1]
    return number(p, 1, p * p + 4 * last[1] * before[0], 2 * last[1])


def whole(n):
    """Return an integer as a number."""
    return (n, 0, 0, 1)


def convergents(ratio, count):
    """Return the pairs of the fractions of the first 1, 2, .. count quotients."""
    return fractions_of(quotients(ratio, count))[2:]


def fractions_of(row):
    """Return the fractions of the first 1, 2, .. quotients of a row, as pairs.

    The pairs (0, 1) and (1, 0), with which the rule begins, stand in front of them.
    """
    found = [(0, 1), (1, 0)]
    for quotient in row:
        before, last = found[-2:]
        found.append((quotient * last[0] + before[0], quotient * last[1] + before[1]))
    return found

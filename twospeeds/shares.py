"""The shares of the acts behind which the states stand."""

from twospeeds.numbers import minus, over, plus, times
from twospeeds.patterns import settled
from twospeeds.quotients import fractions_of, whole
from twospeeds.tallies import tally


def shares(ratio, maps, start):
    """Return the tuple of the shares of the states 0, 1, .. as numbers."""
    row, words, upper, lower = settled(ratio, maps, start)
    alone, pairs = shares_of_words(ratio, row)
    # The states of U, and with them those of W, stand equally often in front of
    # their words: s(k) alone from U, or s(k - 1) from U and s(k) from W.
    begins = {state: 1 for state in upper}
    of_alone = tally(words, row, begins, {})
    of_pairs = tally(words, row, {state: 1 for state in lower}, begins)
    found = []
    for state in range(len(maps[0])):
        share = plus(times(alone, count_of(of_alone, state)), times(pairs, count_of(of_pairs, state)))
        found.append(over(share, whole(len(upper))))
    return tuple(found)


def count_of(counts, state):
    """Return how often a state is counted, as a number."""
    return whole(counts[state] if state in counts else 0)


def shares_of_words(ratio, row):
    """Return how often, for each act, s(k) that is not behind s(k - 1) begins, and s(k - 1) with the s(k) behind it.

    k is the number of quotients in the row.
    """
    (before_a, before_b), (last_a, last_b) = fractions_of(row)[-2:]
    # s(k) and s(k - 1) have these numbers of a's and b's, and of all acts, a does
    # ratio / (ratio + 1). This is solved for the numbers of the words; the
    # determinant is 1 or -1.
    single = minus(times(ratio, whole(before_b)), whole(before_a))
    pairs = minus(whole(last_a), times(ratio, whole(last_b)))
    every = plus(ratio, whole(1))
    if len(row) % 2 == 1:
        every = minus(whole(0), every)
    return over(minus(single, pairs), every), over(pairs, every)

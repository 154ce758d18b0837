"""The shares of the acts behind which the states stand."""

from twospeeds.numbers import lowest, minus, over, plus, times
from twospeeds.patterns import settled
from twospeeds.quotients import fractions_of, whole
from twospeeds.tallies import once, tally


def shares(ratio, maps, start):
    """Return the tuple of the shares of the states 0, 1, .. as numbers."""
    row, words, upper, lower = settled(ratio, maps, start)
    alone, pairs = shares_of_words(ratio, row)
    # The states of U, and with them those of W, stand equally often in front of
    # their words: s(k) alone from U, or s(k - 1) from U and s(k) from W.
    of_alone = tally(words, row, once(upper), {})
    # For a fraction, no word but the rounds stands in the order.
    of_pairs = tally(words, row, once(lower), once(upper)) if ratio[1] != 0 else {}
    p, q, d, s = alone
    other_p, other_q, _, other_s = pairs
    found = []
    for state in range(len(maps[0])):
        left = of_alone.get(state, 0) * other_s
        right = of_pairs.get(state, 0) * s
        # This is (alone * left + pairs * right) / len(upper), brought to lowest terms only once.
        found.append(lowest(p * left + other_p * right, q * left + other_q * right, d, s * other_s * len(upper)))
    return tuple(found)


def shares_of_words(ratio, row):
    """Return how often, for each act, s(k) that is not behind s(k - 1) begins, and s(k - 1) with the s(k) behind it.

    k is the number of quotients in the row.
    """
    (before_a, before_b), (last_a, last_b) = fractions_of(row)[-2:]
    # s(k) and s(k - 1) have these numbers of a's and b's, and of all acts, a does
    # ratio / (ratio + 1). This is solved for the numbers of the words; the
    # determinant is 1 or -1.
    single = minus(times(ratio, whole(before_b)), whole(before_a))
    pairs = minus(whole(last_a), times(ratio, whole(last_b)))
    every = plus(ratio, whole(1))
    if len(row) % 2 == 1:
        every = minus(whole(0), every)
    return over(minus(single, pairs), every), over(pairs, every)

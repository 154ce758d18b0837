"""Runs: the states behind the acts of an order."""

from twospeeds.order import acts
from twospeeds.words import led, order_quotients, standard_words


def state_after(ratio, maps, start, count):
    """Return the state behind the first count acts of the run from a state."""
    # Two levels on, a word is at least twice as long: the last one is longer than
    # count, or it is the round of a fraction.
    row = order_quotients(ratio, 2 * count.bit_length() + 1)
    words = standard_words(row, maps, (), count)
    state = start
    rest = count
    # The longest words stand in front, each as often as it fits. Nothing is left for s(-1).
    for word in reversed(words):
        times, rest = divmod(rest, word.length)
        state = led(word.leads, state, times)
    return state


def path(ratio, maps, start, count):
    """Return the list of the states behind 0, 1, .. count acts."""
    found = [start]
    for worker in acts(ratio, count):
        leads = maps[0] if worker == "a" else maps[1]
        found.append(leads[found[-1]])
    return found

"""How often states stand behind the acts of standard words.

Words begin at states with weights: a dict from states to how often a word
begins there. States without a weight are not in it.
"""

from twospeeds.words import cycles

# So many repetitions are followed one by one.
FEW = 8


def tally(words, row, upper, lower, exact=True):
    """Return the dict from states to how often they stand behind the acts of some words.

    words are the standard words of the quotients in a row; upper has the weights
    for the last one of them, lower those for the one in front of it. If the
    answer need not be exact, only its states count.
    """
    # Each word is taken apart into those of which it consists, down to "a" and "b".
    for index in range(len(words) - 2, 0, -1):
        sums, ends = along(words[index].leads, upper, row[index - 1])
        upper = added(sums, lower)
        lower = ends
        if not exact:
            # Otherwise the weights would grow with the lengths of the words.
            upper = once(upper)
            lower = once(lower)
    return added(carried(words[1].leads, upper), carried(words[0].leads, lower))


def along(leads, weights, times):
    """Return (sums, ends) for a word that is repeated a number of times from states with weights.

    sums has the weights with which one of the repeated words begins, ends those
    behind all of them.
    """
    rings = cycles(leads) if times > FEW else []
    turning = {state: True for ring in rings for state in ring}
    sums = {}
    ends = weights
    left = times
    while left > 0 and any([state not in turning for state in ends]):
        sums = added(sums, ends)
        ends = carried(leads, ends)
        left -= 1
    # All weights turn round now, and the number of times may be too large to go one by one.
    if left == 0:
        return sums, ends
    turned = {}
    for ring in rings:
        row = [ends[state] if state in ends else 0 for state in ring]
        if any(row):
            ring_sums, row = round_ring(row, left)
            sums = added(sums, weights_of(ring, ring_sums))
            turned = added(turned, weights_of(ring, row))
    return sums, turned


def round_ring(row, times):
    """Return (sums, ends), as lists, for weights that go round a ring a number of times."""
    size = len(row)
    rounds, rest = divmod(times, size)
    whole = rounds * sum(row)
    # The weights that come by in the last round, which is not a whole one.
    window = sum([row[-back] for back in range(rest)])
    sums = []
    for at in range(size):
        sums.append(whole + window)
        window += row[(at + 1) % size] - row[(at + 1 - rest) % size]
    return sums, [row[(at - rest) % size] for at in range(size)]


def weights_of(states, row):
    """Return the weights of states that have those in a row."""
    return {state: weight for state, weight in zip(states, row) if weight > 0}


def once(states):
    """Return weights of 1 for some states."""
    return {state: 1 for state in states}


def added(one, other):
    """Return the sums of weights."""
    found = {state: one[state] for state in one}
    for state in other:
        found[state] = found[state] + other[state] if state in found else other[state]
    return found


def carried(leads, weights):
    """Return the weights behind a map."""
    found = {}
    for state in weights:
        target = leads[state]
        found[target] = found[target] + weights[state] if target in found else weights[state]
    return found

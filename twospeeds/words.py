"""The standard words of an order, and what they do to the states of a run.

A list of words holds s(-1) = "b", s(0) = "a", s(1) and so on. With this s(-1)
the rule for s(1) is that of all further words.
"""

from math import lcm

from twospeeds.quotients import quotients


class Word:
    """What a word of acts does, whatever state it begins at.

    leads is its map. firsts holds for each state behind how many of its acts a
    target stands for the first time, None if none does.
    """

    def __init__(self, length, leads, firsts):
        self.length = length
        self.leads = leads
        self.firsts = firsts


def letter(leads, targets):
    """Return the word of one act."""
    return Word(1, leads, tuple([1 if state in targets else None for state in leads]))


def joined(one, other):
    """Return the word of two words, one behind the other."""
    leads = tuple([other.leads[state] for state in one.leads])
    firsts = []
    for state, first in zip(one.leads, one.firsts):
        later = other.firsts[state]
        if first is None and later is not None:
            firsts.append(one.length + later)
        else:
            firsts.append(first)
    return Word(one.length + other.length, leads, tuple(firsts))


def repeated(word, times):
    """Return the word that is a word a number of times."""
    if times == 1:
        return word
    size = len(word.leads)
    found = Word(0, tuple(range(size)), (None,) * size)
    power = word
    left = shortened(word.leads, times)
    while left > 1:
        if left % 2 == 1:
            found = joined(found, power)
        power = joined(power, power)
        left //= 2
    if left == 1:
        found = joined(found, power)
    return Word(times * word.length, found.leads, found.firsts)


def shortened(leads, times):
    """Return a number of times that leads to the same states, by the same ones."""
    size = len(leads)
    if times <= size:
        return times
    # Behind as many times as there are states, each of them has met all that it
    # ever meets, and only turns round from there on.
    turn = 1
    for cycle in cycles(leads):
        turn = lcm(turn, len(cycle))
    return size + (times - size) % turn


def cycles(leads):
    """Return the lists of the states that a map leads round, in this order."""
    met = {}
    found = []
    for start in range(len(leads)):
        row = []
        state = start
        while state not in met:
            met[state] = start
            row.append(state)
            state = leads[state]
        if met[state] == start:
            found.append(row[row.index(state):])
    return found


def led(leads, start, times):
    """Return the state to which a map leads that is applied a number of times."""
    row = [start]
    met = {start: 0}
    while len(row) <= times:
        state = leads[row[-1]]
        if state in met:
            cut = met[state]
            return row[cut + (times - cut) % (len(row) - cut)]
        met[state] = len(row)
        row.append(state)
    return row[times]


def order_quotients(ratio, count):
    """Return the first count quotients of a ratio with a root, or those of a fraction's round.

    A round of a fraction is the word of the acts after which the order repeats.
    It is the last standard word of these quotients.
    """
    if ratio[1] != 0:
        return quotients(ratio, count)
    # Two quotients at least halve the denominator.
    row = quotients(ratio, 2 * ratio[3].bit_length() + 2)
    if len(row) % 2 == 0:
        # The order is that of the ratios just above the fraction. An even number
        # of quotients would give that of the ratios just below it.
        row[-1] -= 1
        row.append(1)
    return row


def following(before, word, quotient):
    """Return the standard word behind two neighbouring ones."""
    return joined(repeated(word, quotient), before)


def standard_words(row, maps, targets, count=None):
    """Return the list of the standard words of the quotients in a row.

    If a count is passed, it ends with the first one from s(1) on that is longer.
    """
    words = [letter(maps[1], targets), letter(maps[0], targets)]
    for quotient in row:
        words.append(following(words[-2], words[-1], quotient))
        if count is not None and words[-1].length > count:
            break
    return words

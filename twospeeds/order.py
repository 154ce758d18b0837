"""The order of the acts of two workers with a ratio of speeds."""

from twospeeds.errors import TooMany
from twospeeds.numbers import floor, opposite, over, plus, times
from twospeeds.quotients import quotients, whole

LONGEST = 2000


def counts(ratio, count):
    """Return the pair (number of a's, number of b's) among the first count acts."""
    # The j-th b is act number floor(j * (1 + ratio)): it is among the first
    # count acts if j is less than (count + 1) / (1 + ratio).
    share = over(whole(count + 1), plus(ratio, whole(1)))
    done = ceiling(share) - 1
    return (count - done, done)


def act_at(ratio, place):
    """Return "a" or "b", the worker of the act at a place from 1 on."""
    if counts(ratio, place)[0] > counts(ratio, place - 1)[0]:
        return "a"
    return "b"


def acts(ratio, count):
    """Return the word of the first count acts."""
    letters = ["a"] * count
    for index in range(1, counts(ratio, count)[1] + 1):
        letters[place_of(ratio, "b", index) - 1] = "b"
    return "".join(letters)


def place_of(ratio, worker, index):
    """Return which act the index-th act of a worker is."""
    if worker == "b":
        # An a at the same time comes first, so it counts too.
        return index + floor(times(whole(index), ratio))
    # Only the b's at earlier times count.
    return index + ceiling(over(whole(index), ratio)) - 1


def ceiling(one):
    """Return the least integer that is at least the number."""
    return -floor(opposite(one))


def lengths(ratio, count):
    """Return the list of the lengths of s(0) to s(count)."""
    # A word "b" in front of s(0) gives s(1) by the rule of all further words.
    before = 1
    found = [1]
    for quotient in quotients(ratio, count):
        last = found[-1]
        found.append(quotient * last + before)
        before = last
    return found


def standard(ratio, level):
    """Return the word s(level)."""
    if lengths(ratio, level)[level] > LONGEST:
        raise TooMany(LONGEST)
    before = "b"
    word = "a"
    for quotient in quotients(ratio, level):
        before, word = word, word * quotient + before
    return word


def digits(ratio, count):
    """Return how often s(0), s(1) and so on stand in the first count acts.

    The longest words stand in front, each as often as it fits.
    """
    # Two levels on, a word is at least twice as long: the last one here is longer than count.
    row = lengths(ratio, 2 * count.bit_length())
    found = []
    rest = count
    for length in reversed(row):
        digit, rest = divmod(rest, length)
        if digit > 0 or len(found) > 0:
            found.append(digit)
    found.reverse()
    return tuple(found)

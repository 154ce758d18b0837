"""What happens in a run for ever: where it ever leads, what returns, and what never stands.

The order of the acts consists of the standard words s(k) and s(k - 1) of a
level k. It begins with s(k), and s(k - 1) is always followed by s(k).
"""

from twospeeds.tallies import once, tally
from twospeeds.words import following, joined, led, letter, order_quotients, repeated, standard_words


def stable_level(ratio, maps):
    """Return the least stable level of a ratio with a root."""
    # From a level that is not stable, four more levels lead to fewer states.
    row = order_quotients(ratio, 4 * len(maps[0]))
    before, word = letter(maps[1], ()), letter(maps[0], ())
    level = 0
    while level == 0 or not is_stable(before, word):
        before, word = word, following(before, word, row[level])
        level += 1
    return level


def is_stable(before, word):
    """Return whether the level of two neighbouring standard words is stable."""
    states = sorted(set(word.leads))
    states_before = sorted(set(before.leads))
    return (is_one_to_one(word.leads, states) and is_one_to_one(word.leads, states_before)
            and is_one_to_one(before.leads, states))


def is_one_to_one(leads, states):
    """Return whether a map leads from different states of a list to different ones."""
    return len({leads[state] for state in states}) == len(states)


def closed_sets(ratio, maps, start, level):
    """Return the closed sets (U, W) of a level, ascending."""
    words = standard_words(order_quotients(ratio, level), maps, ())
    if ratio[1] == 0:
        return (rounds_from(words[-1], start), ())
    return closed(words[-2], words[-1], start)


def rounds_from(word, start):
    """Return the states in front of the rounds of a fraction, ascending."""
    found = {}
    state = start
    while state not in found:
        found[state] = True
        state = word.leads[state]
    return tuple(sorted(found))


def closed(before, word, start):
    """Return the closed sets of the level of two neighbouring standard words."""
    upper = {}
    lower = {}
    waiting = [word.leads[start]]
    while len(waiting) > 0:
        state = waiting.pop()
        if state not in upper:
            upper[state] = True
            beside = before.leads[state]
            lower[beside] = True
            waiting.append(word.leads[state])
            waiting.append(word.leads[beside])
    return (tuple(sorted(upper)), tuple(sorted(lower)))


def visits(ratio, maps, level, state):
    """Return the dict from states to how often they stand behind acts of s(level), or of a round."""
    row = order_quotients(ratio, level)
    found = tally(standard_words(row, maps, ()), row, {state: 1}, {})
    return {after: found[after] for after in sorted(found)}


def settled(ratio, maps, start):
    """Return (quotients, standard words, U, W) of a level whose closed sets the run meets again and again.

    For a fraction, the last word is the round, and U is the set of the states in
    front of the rounds that repeat.
    """
    if ratio[1] == 0:
        row = order_quotients(ratio, 0)
        words = standard_words(row, maps, ())
        leads = words[-1].leads
        return row, words, rounds_from(words[-1], led(leads, start, len(leads))), ()
    # From a stable level on, the words permute the states in front of them. Then
    # the run leads to all states to which any words lead, and does so for ever.
    row = order_quotients(ratio, stable_level(ratio, maps))
    words = standard_words(row, maps, ())
    upper, lower = closed(words[-2], words[-1], start)
    return row, words, upper, lower


def behind(words, row, upper, lower):
    """Return a dict with the states behind the acts of the last two words.

    Both begin at the states of upper, only the last one at those of lower.
    """
    return tally(words, row, once(upper + lower), once(upper), exact=False)


def occurring(ratio, maps, start):
    """Return the ascending list of the states that stand behind 0 or more acts of the run."""
    row, words, upper, lower = settled(ratio, maps, start)
    # In front of what returns stand the first word, or the first rounds of a fraction.
    found = behind(words, row, upper, lower + rounds_from(words[-1], start))
    found[start] = 1
    return sorted(found)


def lasting(ratio, maps, start):
    """Return the ascending list of the states that stand again and again."""
    row, words, upper, lower = settled(ratio, maps, start)
    # The word in front of a round only repeats what the round does: it is its beginning.
    return sorted(behind(words, row, upper, lower))


def enough(maps, count):
    """Return how many quotients decide what stands behind more than count acts."""
    # Two levels on, a word is at least twice as long. A level that is not stable
    # has fewer states four levels on, and so do the states of a stable level from
    # which a word does not meet a target that is met at all.
    return 2 * count.bit_length() + 8 * len(maps[0]) + 4


def next_act(ratio, maps, start, passed, targets):
    """Return the least number of acts, not below passed, behind which a target stands, or None."""
    if passed == 0 and start in targets:
        return 0
    row = order_quotients(ratio, enough(maps, passed))
    words = standard_words(row, maps, targets, passed)
    # Only the round of a fraction can be shorter.
    rounds, skipped = divmod(max(passed - 1, 0), words[-1].length)
    state = led(words[-1].leads, start, rounds)
    found = first_within(words, row, state, skipped)
    if found is None:
        found = first_beyond(words, row, state)
    if found is None:
        return None
    return rounds * words[-1].length + found


def first_within(words, row, start, skipped):
    """Return behind how many acts of the last word, more than skipped, a target stands first, or None."""
    # What follows the skipped acts, as words with their numbers, the last ones first.
    waiting = []
    state = start
    index = len(words) - 1
    rest = skipped
    while rest > 0:
        # words[index] is row[index - 2] times the word in front of it and then the one before that.
        word = words[index - 1]
        times = min(rest // word.length, row[index - 2])
        state = led(word.leads, state, times)
        rest -= times * word.length
        if times < row[index - 2]:
            waiting.append((words[index - 2], 1))
            waiting.append((word, row[index - 2] - times - 1))
            index -= 1
        else:
            index -= 2
    waiting.append((words[index], 1))
    done = skipped
    for word, times in reversed(waiting):
        whole = repeated(word, times)
        if whole.firsts[state] is not None:
            return done + whole.firsts[state]
        done += whole.length
        state = whole.leads[state]
    return None


def first_beyond(words, row, start):
    """Return behind how many acts a target stands first if none does in the last word, or None."""
    before, word = words[-2:]
    for quotient in row[len(words) - 2:]:
        upper, lower = closed(before, word, start)
        if is_clear(before, word, upper, lower):
            return None
        rest = joined(repeated(word, quotient - 1), before)
        first = rest.firsts[word.leads[start]]
        if first is not None:
            return word.length + first
        before, word = word, joined(word, rest)
    # Here the row ends with the round of a fraction.
    rounds = repeated(word, len(word.leads))
    first = rounds.firsts[word.leads[start]]
    return None if first is None else word.length + first


def is_clear(before, word, upper, lower):
    """Return whether no target stands behind an act of a word from the states of (U, W)."""
    return (all([word.firsts[state] is None for state in upper + lower])
            and all([before.firsts[state] is None for state in upper]))


def never(ratio, maps, start, targets):
    """Return None if a target ever stands in the run, otherwise the certificate of the least level."""
    if start in targets:
        return None
    row = order_quotients(ratio, enough(maps, 0))
    if ratio[1] == 0:
        word = standard_words(row, maps, targets)[-1]
        upper = rounds_from(word, start)
        return (0, upper, ()) if is_clear(word, word, upper, ()) else None
    before, word = letter(maps[1], targets), letter(maps[0], targets)
    for at, quotient in enumerate(row):
        before, word = word, following(before, word, quotient)
        if word.firsts[start] is not None:
            return None
        upper, lower = closed(before, word, start)
        if is_clear(before, word, upper, lower):
            return (at + 1, upper, lower)
    return None


def shows_never(ratio, maps, start, targets, certificate):
    """Return whether a certificate shows that no target ever stands in the run."""
    level, upper, lower = certificate
    if start in targets or (level == 0) != (ratio[1] == 0):
        return False
    words = standard_words(order_quotients(ratio, level), maps, targets)
    before, word = words[-2:]
    if ratio[1] == 0:
        ends = [word.leads[state] for state in upper]
        return len(lower) == 0 and all_in([start] + ends, upper) and is_clear(word, word, upper, ())
    ends = [word.leads[state] for state in upper + lower]
    between = [before.leads[state] for state in upper]
    return (word.firsts[start] is None and all_in([word.leads[start]] + ends, upper) and all_in(between, lower)
            and is_clear(before, word, upper, lower))


def all_in(states, places):
    """Return whether all states of a list are in a tuple."""
    return all([state in places for state in states])

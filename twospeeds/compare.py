"""Programs held against each other, and the states of one program."""

from twospeeds.expressions import evaluate, parse_expression
from twospeeds.machine import all_states, index_of, maps_of, start_state, values_of
from twospeeds.patterns import never, next_act


def first_difference(ratio, one, other, text):
    """Return the least number of acts behind which an expression differs in two programs' runs, or None."""
    maps, targets = pairs_of(one, other, text)
    return next_act(ratio, maps, 0, 0, targets)


def same_for_ever(ratio, one, other, text):
    """Return None if there is a difference, otherwise the certificate for the pairs of states."""
    maps, targets = pairs_of(one, other, text)
    return never(ratio, maps, 0, targets)


def pairs_of(one, other, text):
    """Return (maps of the pairs of states, the pairs with different values) of two programs."""
    values = values_in_states(one, text)
    other_values = values_in_states(other, text)
    start = (index_of(one, start_state(one)), index_of(other, start_state(other)))
    return maps_of_pairs(maps_of(one), values, maps_of(other), other_values, start)


def values_in_states(program, text):
    """Return the list of the values of an expression, a text, in all states."""
    expression = parse_expression(text, program[0])
    return [evaluate(expression, values_of(program, state)) for state in all_states(program)]


def maps_of_pairs(maps, values, other_maps, other_values, start):
    """Return (maps, differing) for the pairs of indexes that any acts lead to from one pair.

    The pairs are numbered as they are met. differing lists those with different values.
    """
    pairs = [start]
    numbers = {start: 0}
    rows = ([], [])
    at = 0
    while at < len(pairs):
        state, other_state = pairs[at]
        for worker in (0, 1):
            pair = (maps[worker][state], other_maps[worker][other_state])
            if pair not in numbers:
                numbers[pair] = len(pairs)
                pairs.append(pair)
            rows[worker].append(numbers[pair])
        at += 1
    differing = [index for index, (one, other) in enumerate(pairs) if values[one] != other_values[other]]
    return (tuple(rows[0]), tuple(rows[1])), differing


def state_classes(ratio, program, text):
    """Return the list of the lists of the states from which an expression has the same values for ever."""
    values = values_in_states(program, text)
    maps = maps_of(program)
    states = all_states(program)
    # The first state of each list stands for all of its states.
    firsts = []
    classes = []
    for index, state in enumerate(states):
        same = [at for at, first in enumerate(firsts) if are_alike(ratio, maps, values, (first, index))]
        if len(same) > 0:
            classes[same[0]].append(state)
        else:
            firsts.append(index)
            classes.append([state])
    return classes


def are_alike(ratio, maps, values, pair):
    """Return whether the values are the same for ever from both states of a pair."""
    of_pairs, differing = maps_of_pairs(maps, values, maps, values, pair)
    return next_act(ratio, of_pairs, 0, 0, differing) is None

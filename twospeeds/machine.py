"""The states of a program, and what an act does to them."""

from twospeeds.expressions import evaluate, parse_expression


def all_states(program):
    """Return the list of all states, ascending."""
    found = [()]
    for _, low, high, _ in program[0]:
        found = [state + (value,) for state in found for value in range(low, high + 1)]
    return found


def start_state(program):
    """Return the state of the start values."""
    return tuple([variable[3] for variable in program[0]])


def acted(program, worker, state):
    """Return the state behind an act of the worker "a" or "b"."""
    variables, rules_of_a, rules_of_b = program
    rules = rules_of_a if worker == "a" else rules_of_b
    # All rules take the values in front of the act.
    before = values_of(program, state)
    after = values_of(program, state)
    for name, expression in rules:
        after[name] = evaluate(expression, before)
    return tuple([min(max(after[name], low), high) for name, low, high, _ in variables])


def values_of(program, state):
    """Return the dict from the variables' names to their values in a state."""
    found = {}
    for variable, value in zip(program[0], state):
        found[variable[0]] = value
    return found


def maps_of(program):
    """Return (map of a, map of b): to which states the acts lead, by the states' indexes."""
    return (map_of(program, "a"), map_of(program, "b"))


def map_of(program, worker):
    """Return the map of a worker."""
    return tuple([index_of(program, acted(program, worker, state)) for state in all_states(program)])


def index_of(program, state):
    """Return the index of a state among all states, ascending."""
    found = 0
    for (_, low, high, _), value in zip(program[0], state):
        found = found * (high - low + 1) + value - low
    return found


def states_where(program, text):
    """Return the list of the indexes of the states in which an expression is not 0, ascending."""
    expression = parse_expression(text, program[0])
    states = all_states(program)
    return [at for at, state in enumerate(states) if evaluate(expression, values_of(program, state)) != 0]

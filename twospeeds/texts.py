"""Programs: from their text to the parsed form, and back."""

from twospeeds.errors import SyntaxProblem
from twospeeds.expressions import format_expression, read_whole
from twospeeds.tokens import Line

MOST_LINES = 30
MOST_VARIABLES = 4
MOST_STATES = 12


def parse_program(text):
    """Return the parsed form (variables, rules of a, rules of b) of a text."""
    variables = ()
    rules = {"a": {}, "b": {}}
    rows = text.split("\n")
    for number, row in enumerate(rows, start=1):
        if number > MOST_LINES:
            raise SyntaxProblem(number, 1)
        line = Line(row.partition("#")[0], number)
        kind = line.kind()
        if kind == "var" and len(rules["a"]) + len(rules["b"]) == 0:
            variables = variables + (read_variable(line, variables),)
        elif kind in rules and len(variables) > 0:
            name, expression = read_rule(line, kind, variables, rules[kind])
            rules[kind][name] = expression
        elif kind != "end":
            raise SyntaxProblem(number, line.here())
    if len(variables) == 0:
        raise SyntaxProblem(len(rows) + 1, 1)
    return (variables, in_order(variables, rules["a"]), in_order(variables, rules["b"]))


def read_variable(line, variables):
    """Read the variable that a line declares, behind other variables."""
    line.take("var")
    column = line.here()
    name = line.take("name")
    if is_declared(name, variables) or len(variables) == MOST_VARIABLES:
        raise SyntaxProblem(line.number, column)
    low = read_value(line)
    line.take("..")
    column = line.here()
    high = read_value(line)
    if high < low or (high - low + 1) * state_count(variables) > MOST_STATES:
        raise SyntaxProblem(line.number, column)
    line.take("=")
    column = line.here()
    start = read_value(line)
    if not low <= start <= high:
        raise SyntaxProblem(line.number, column)
    line.take("end")
    return (name, low, high, start)


def read_value(line):
    """Read a number, or "-" and a number."""
    if line.kind() == "-":
        line.take("-")
        return -int(line.take("number"))
    return int(line.take("number"))


def read_rule(line, worker, variables, present):
    """Read the rule (name, expression) of a line, beside the present rules of its worker."""
    line.take(worker)
    column = line.here()
    name = line.take("name")
    if not is_declared(name, variables) or name in present:
        raise SyntaxProblem(line.number, column)
    line.take(":=")
    expression = read_whole(line, variables)
    line.take("end")
    return (name, expression)


def is_declared(name, variables):
    """Return whether a variable has a name."""
    return name in [variable[0] for variable in variables]


def state_count(variables):
    """Return how many states there are with some variables."""
    found = 1
    for _, low, high, _ in variables:
        found *= high - low + 1
    return found


def in_order(variables, rules):
    """Return a worker's rules, a dict, as a tuple in the order of the variables."""
    names = [variable[0] for variable in variables]
    return tuple([(name, rules[name]) for name in names if name in rules])


def format_program(program):
    """Return the canonical text of a parsed form."""
    variables, rules_of_a, rules_of_b = program
    rows = [f"var {name} {low}..{high} = {start}" for name, low, high, start in variables]
    rows += [f"a {name} := {format_expression(expression)}" for name, expression in rules_of_a]
    rows += [f"b {name} := {format_expression(expression)}" for name, expression in rules_of_b]
    return "\n".join(rows)

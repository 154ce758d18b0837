"""Expressions: from their text to the parsed form, to a value, and back to a text."""

from twospeeds.errors import SyntaxProblem
from twospeeds.tokens import Line

# How tightly the operators of parsed forms bind, from 0 for the loosest one on.
BINARY = {
    "or": 1, "and": 2, "=": 4, "!=": 4, "<": 4, "<=": 4, ">": 4, ">=": 4, "+": 5, "-": 5, "*": 6, "mod": 6,
}
OTHERS = {"if": 0, "not": 3, "neg": 7, "int": 8, "name": 8}
# The same for the kinds of tokens with which expressions begin.
BEGINNINGS = {"if": 0, "not": 3, "-": 7, "number": 8, "name": 8, "(": 8}
COMPARISONS = ("=", "!=", "<", "<=", ">", ">=")
ANY = 0
DEEPEST = 20


def parse_expression(text, variables):
    """Return the parsed form of a text, with the variables' first items as the names."""
    line = Line(text, 1)
    found = read_whole(line, variables)
    line.take("end")
    return found


def read_whole(line, variables):
    """Read a whole expression from a line."""
    names = tuple([variable[0] for variable in variables])
    return read_expression(line, names, 1, ANY)


def read_expression(line, names, level, loosest):
    """Read an expression at a level whose operators are at least as tight as the loosest."""
    kind = line.kind()
    if level > DEEPEST or kind not in BEGINNINGS or BEGINNINGS[kind] < loosest:
        raise SyntaxProblem(line.number, line.here())
    left = BEGINNINGS[kind]
    found = read_beginning(line, names, level)
    while joins(line.kind(), left, loosest):
        operator = line.take(line.kind())
        left = BINARY[operator]
        found = (operator, found, read_expression(line, names, level, left + 1))
    return found


def joins(kind, left, loosest):
    """Return whether a token goes on with an expression as tight as left, as its operator."""
    if kind not in BINARY or BINARY[kind] < loosest:
        return False
    return left >= tightness_of_left(kind)


def tightness_of_left(operator):
    """Return how tight the left operand of a binary operator is at least."""
    # All but the comparisons associate to the left.
    if operator in COMPARISONS:
        return BINARY[operator] + 1
    return BINARY[operator]


def read_beginning(line, names, level):
    """Read an expression up to its first binary operator outside of it."""
    kind = line.kind()
    column = line.here()
    word = line.take(kind)
    if kind == "number":
        return ("int", int(word))
    if kind == "name":
        if word not in names:
            raise SyntaxProblem(line.number, column)
        return ("name", word)
    if kind == "not":
        return ("not", read_expression(line, names, level + 1, OTHERS["not"]))
    if kind == "-":
        return ("neg", read_expression(line, names, level + 1, OTHERS["neg"]))
    found = read_expression(line, names, level + 1, ANY)
    if kind == "(":
        line.take(")")
        return found
    line.take("then")
    chosen = read_expression(line, names, level + 1, ANY)
    line.take("else")
    return ("if", found, chosen, read_expression(line, names, level + 1, ANY))


def evaluate(expression, values):
    """Return the value of a parsed form, with the values of the names."""
    kind = expression[0]
    if kind == "int":
        return expression[1]
    if kind == "name":
        return values[expression[1]]
    parts = [evaluate(part, values) for part in expression[1:]]
    if kind == "if":
        return parts[1] if parts[0] != 0 else parts[2]
    if kind == "neg":
        return -parts[0]
    if kind == "not":
        return int(parts[0] == 0)
    if kind == "+":
        return parts[0] + parts[1]
    if kind == "-":
        return parts[0] - parts[1]
    if kind == "*":
        return parts[0] * parts[1]
    if kind == "mod":
        return parts[0] % parts[1] if parts[1] != 0 else 0
    return int(holds(kind, parts[0], parts[1]))


def holds(operator, one, other):
    """Return whether a comparison, an "and" or an "or" of two values holds."""
    if operator == "and":
        return one != 0 and other != 0
    if operator == "or":
        return one != 0 or other != 0
    if operator == "=":
        return one == other
    if operator == "!=":
        return one != other
    if operator == "<":
        return one < other
    if operator == "<=":
        return one <= other
    if operator == ">":
        return one > other
    return one >= other


def format_expression(expression):
    """Return the canonical text of a parsed form."""
    kind = expression[0]
    if kind == "int":
        return str(expression[1])
    if kind == "name":
        return expression[1]
    if kind == "if":
        test, chosen, other = [format_expression(part) for part in expression[1:]]
        return f"if {test} then {chosen} else {other}"
    if kind == "not":
        return "not " + format_operand(expression[1], OTHERS["not"])
    if kind == "neg":
        return "-" + format_operand(expression[1], OTHERS["neg"])
    left = format_operand(expression[1], tightness_of_left(kind))
    right = format_operand(expression[2], BINARY[kind] + 1)
    return f"{left} {kind} {right}"


def format_operand(expression, loosest):
    """Return the text of an operand, in parentheses if it is looser than the loosest one."""
    text = format_expression(expression)
    kind = expression[0]
    tightness = BINARY[kind] if kind in BINARY else OTHERS[kind]
    return f"({text})" if tightness < loosest else text

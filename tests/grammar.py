"""The expressions of point 8 as a grammar, to find the first token with which none goes on.

It reads the tokens of a line with Earley's method, so it has nothing in common
with the parser of the package.
"""

START = "any"

RULES = {
    "any": [["if", "any", "then", "any", "else", "any"], ["or'"]],
    "or'": [["or'", "or", "and'"], ["and'"]],
    "and'": [["and'", "and", "not'"], ["not'"]],
    "not'": [["not", "not'"], ["compared"]],
    "compared": [["sum", sign, "sum"] for sign in ("=", "!=", "<", "<=", ">", ">=")] + [["sum"]],
    "sum": [["sum", "+", "product"], ["sum", "-", "product"], ["product"]],
    "product": [["product", "*", "minus"], ["product", "mod", "minus"], ["minus"]],
    "minus": [["-", "minus"], ["single"]],
    "single": [["NUMBER"], ["NAME"], ["(", "any", ")"]],
}


def kind(token):
    """A token as the grammar names it."""
    if token.isdigit():
        return "NUMBER"
    if token in ("x", "y", "n1"):
        return "NAME"
    return token


def closed(columns, at):
    """Complete the last column: what may begin there, and what ends there."""
    column = columns[at]
    row = list(column)
    while row:
        head, body, dot, origin = row.pop()
        found = []
        if dot < len(body) and body[dot] in RULES:
            found = [(body[dot], tuple(other), 0, at) for other in RULES[body[dot]]]
        elif dot == len(body):
            found = [(name, parts, place + 1, begin) for name, parts, place, begin in columns[origin]
                     if place < len(parts) and parts[place] == head]
        for item in found:
            if item not in column:
                column.add(item)
                row.append(item)


def first_problem(tokens):
    """The index of the first token with which no expression goes on, None if there is none.

    The end of the tokens counts as a token.
    """
    columns = [{(START, tuple(body), 0, 0) for body in RULES[START]}]
    closed(columns, 0)
    for at, token in enumerate(tokens):
        following = {(head, body, dot + 1, origin) for head, body, dot, origin in columns[at]
                     if dot < len(body) and body[dot] == kind(token)}
        if not following:
            return at
        columns.append(following)
        closed(columns, at + 1)
    for head, body, dot, origin in columns[-1]:
        if head == START and dot == len(body) and origin == 0:
            return None
    return len(tokens)

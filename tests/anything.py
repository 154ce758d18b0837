"""Objects of all kinds that point 2 calls "any object"."""


def nested(depth):
    found = ()
    for turn in range(depth):
        found = [[found], (found, 1), {"x": found}][turn % 3]
    return found


OBJECTS = [None, True, False, 0, 1, -1, 2, 10 ** 50, "", "x", "0", "1", (), [], {}, (0,), [0], {0: 0}, (1, 1, 5, 2),
           [1, 1, 5, 2], (True, 0, 0, 1), (1, 0, 0, True), (1, False, 0, 1), (1, 0, False, 1), (1, 0, 0),
           (1, 0, 0, 1, 0),
           (None, None, None, None), ("1", 0, 0, 1), ((1,), 0, 0, 1), (1, 0, 0, [1]), (2, 0, 0, 2), (1, 1, 4, 1),
           (1, 1, 1, 1), (1, 1, 0, 1), (1, 0, 5, 1), (0, 0, 0, 1), (-1, 0, 0, 1), (1, 0, 0, 0), (1, 0, 0, -1),
           (1, -1, 2, 1), (-2, 1, 2, 1), (1, 1, -5, 2), (1, 1, 10 ** 10, 1), (1, 1, 12, 1), {1: (1, 0, 0, 1)},
           [(1, 0, 0, 1)], "(1, 0, 0, 1)", nested(29), [nested(28), None, {"a": [True]}], list(range(4000)),
           tuple([0] * 4999)]

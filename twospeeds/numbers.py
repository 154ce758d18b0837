"""Exact numbers (p, q, d, s), for (p + q * root d) / s in canonical form."""

from math import gcd, isqrt

from twospeeds.errors import InvalidNumber, OtherRoot, ZeroDivisor


def number(p, q, d, s):
    """Return the number (p + q * root d) / s."""
    if d < 0:
        raise InvalidNumber("d is below 0")
    if s == 0:
        raise InvalidNumber("s is 0")
    root, rest = split_square(d)
    if rest == 1:
        return lowest(p + q * root, 0, 0, s)
    return lowest(p, q * root, rest, s)


def lowest(p, q, d, s):
    """Return the number whose d is known to have no square divisor; s is not 0."""
    common = gcd(p, q, s)
    if s < 0:
        common = -common
    if q == 0:
        return (p // common, 0, 0, s // common)
    return (p // common, q // common, d, s // common)


def split_square(d):
    """Return (root, rest) with d = root * root * rest, where no square above 1 divides rest.

    For a d of 0, (0, 1).
    """
    root = 1
    rest = 1
    left = d
    factor = 2
    # Up to the cube root only: what is left then has at most two prime
    # factors, so a square in it can only be all of it.
    while factor * factor * factor <= left:
        while left % (factor * factor) == 0:
            left //= factor * factor
            root *= factor
        if left % factor == 0:
            left //= factor
            rest *= factor
        factor += 1
    half = isqrt(left)
    if half * half == left:
        return root * half, rest
    return root, rest * left


def is_number(thing):
    """Return whether any object is a number in canonical form."""
    if not isinstance(thing, tuple) or len(thing) != 4:
        return False
    for part in thing:
        if not isinstance(part, int) or isinstance(part, bool):
            return False
    p, q, d, s = thing
    if s < 1 or gcd(p, q, s) != 1:
        return False
    if q == 0:
        return d == 0
    return d > 1 and split_square(d)[0] == 1


def sign(one):
    """Return -1, 0 or 1, as the number is below, equal to or above 0."""
    return surd_sign(one[0], one[1], one[2])


def surd_sign(p, q, d):
    """Return the sign of p + q * root d, where d is not a square unless q is 0."""
    # The part with the greater square decides. The squares are equal only if both are 0.
    if p * p > q * q * d:
        return integer_sign(p)
    return integer_sign(q)


def integer_sign(n):
    """Return -1, 0 or 1, as the integer is below, equal to or above 0."""
    if n > 0:
        return 1
    if n < 0:
        return -1
    return 0


def floor(one):
    """Return the greatest integer that is at most the number."""
    p, q, d, s = one
    root = isqrt(q * q * d)
    if q < 0:
        # q * root d is never an integer here, so it lies between -root - 1 and -root.
        return (p - root - 1) // s
    return (p + root) // s


def compare(first, second):
    """Return -1, 0 or 1 if first is less than, equal to or greater than second."""
    p, q, d, s = first
    other_p, other_q, other_d, other_s = second
    # Times s and other_s, the difference is whole + left * root d + right * root other_d.
    whole = p * other_s - other_p * s
    left = q * other_s
    right = -other_q * s
    if d == other_d:
        return surd_sign(whole, left + right, d)
    near = surd_sign(whole, left, d)
    far = integer_sign(right)
    if near == far or far == 0:
        return near
    if near == 0:
        return far
    # The two parts have opposite signs: the one with the greater square decides.
    # The squares differ, because the roots do.
    squares = whole * whole + left * left * d - right * right * other_d
    return near * surd_sign(squares, 2 * whole * left, d)


def plus(first, second):
    """Return the sum of two numbers."""
    d = common_root(first, second)
    p, q, _, s = first
    other_p, other_q, _, other_s = second
    return lowest(p * other_s + other_p * s, q * other_s + other_q * s, d, s * other_s)


def minus(first, second):
    """Return first less second."""
    return plus(first, opposite(second))


def times(first, second):
    """Return the product of two numbers."""
    d = common_root(first, second)
    p, q, _, s = first
    other_p, other_q, _, other_s = second
    return lowest(p * other_p + q * other_q * d, p * other_q + q * other_p, d, s * other_s)


def over(first, second):
    """Return first divided by second."""
    p, q, d, s = second
    if p == 0 and q == 0:
        raise ZeroDivisor("the second number is 0")
    # 1 / (p + q * root d) is (p - q * root d) / (p * p - q * q * d).
    return times(first, lowest(p * s, -q * s, d, p * p - q * q * d))


def opposite(one):
    """Return the negative of a number."""
    p, q, d, s = one
    return (-p, -q, d, s)


def common_root(first, second):
    """Return the d of both numbers, or of the one that has a root; 0 if none has."""
    d = first[2]
    other_d = second[2]
    if d != other_d and d != 0 and other_d != 0:
        raise OtherRoot(f"root {d} and root {other_d}")
    return max(d, other_d)

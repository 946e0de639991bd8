"""Whole numbers a + b w of a kind, and such numbers by integers, unchecked.

w times w is 2, 3, or w and 1 together; w's mate is minus w, or 1 less w.
"""

from math import gcd, isqrt


def lowest(a, b, n):
    """(a + b w) / n as a number in its form; n is not 0."""
    common = gcd(a, b, n)
    if n < 0:
        common = -common
    return (a // common, b // common, n // common)


def pair_sum(p, q):
    """Two pairs, added."""
    return (p[0] + q[0], p[1] + q[1])


def pair_less(p, q):
    """One pair less another one."""
    return (p[0] - q[0], p[1] - q[1])


def pair_times(kind, p, q):
    """The product of two pairs."""
    a, b = p
    c, d = q
    if kind == 5:
        return (a * c + b * d, a * d + b * c + b * d)
    return (a * c + kind * b * d, a * d + b * c)


def pair_mate(kind, p):
    """The mate of a pair."""
    a, b = p
    if kind == 5:
        return (a + b, -b)
    return (a, -b)


def pair_norm(kind, p):
    """The norm of a pair, an integer."""
    a, b = p
    if kind == 5:
        return a * a + a * b - b * b
    return a * a - kind * b * b


def whole_sign(kind, a, b):
    """-1, 0 or 1, as a + b w is below, at or above 0."""
    if kind == 5:
        # 2 w is 1 and the root of 5 together.
        a = 2 * a + b
    if a >= 0 and b >= 0:
        return 1 if a or b else 0
    if a <= 0 and b <= 0:
        return -1
    # The root is no fraction, so the squares are never the same.
    if a * a > kind * b * b:
        return 1 if a > 0 else -1
    return 1 if b > 0 else -1


def whole_floor(kind, a, b, n):
    """The greatest integer that is at most (a + b w) / n, n from 1 on."""
    if kind == 5:
        a, n = 2 * a + b, 2 * n
    root = isqrt(kind * b * b)
    if b < 0:
        root = -root - 1
    return (a + root) // n


def whole_ceiling(kind, a, b, n):
    """The least integer that is at least (a + b w) / n, n from 1 on."""
    return -whole_floor(kind, -a, -b, n)


def number_sum(p, q):
    """Two numbers, added."""
    a, b, n = p
    c, d, m = q
    return lowest(a * m + c * n, b * m + d * n, n * m)


def number_less(p, q):
    """One number less another one."""
    a, b, n = p
    c, d, m = q
    return lowest(a * m - c * n, b * m - d * n, n * m)


def number_by(kind, p, q):
    """One number divided by another one that is not 0."""
    a, b, n = p
    c, d, m = q
    e, f = pair_times(kind, (a, b), pair_mate(kind, (c, d)))
    return lowest(e * m, f * m, n * pair_norm(kind, (c, d)))


def number_order(kind, p, q):
    """-1, 0 or 1, as one number is less than another one, the same, greater."""
    a, b, n = p
    c, d, m = q
    return whole_sign(kind, a * m - c * n, b * m - d * n)


def size_of(kind, p):
    """The least integer that is at least the absolute value of a pair."""
    a, b = p
    return max(whole_ceiling(kind, a, b, 1), -whole_floor(kind, a, b, 1))


def place_size(kind, place):
    """The least radius within which a place lies."""
    return max(size_of(kind, place[0]), size_of(kind, place[1]))


def place_sum(one, other):
    """Two places, added."""
    (a, b), (c, d) = one
    (e, f), (g, h) = other
    return ((a + e, b + f), (c + g, d + h))


def place_back(place):
    """A place times -1."""
    (a, b), (c, d) = place
    return ((-a, -b), (-c, -d))

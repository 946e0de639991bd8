"""Numbers (a + b w) / n of the three kinds."""

from math import gcd
from wholefloors.checks import check_kind, is_integer
from wholefloors.errors import DividedByZero, InvalidNumber
from wholefloors.wholes import (
    lowest, number_by, number_less, number_order, number_sum, pair_mate, pair_norm, pair_times, whole_floor, whole_sign)

UNITS = {2: (1, 1, 1), 3: (2, 1, 1), 5: (0, 1, 1)}
STRETCH_UNITS = {2: (3, 2, 1), 3: (2, 1, 1), 5: (1, 1, 1)}


def is_number(told):
    """True if told is a number, of any kind."""
    if not isinstance(told, tuple) or len(told) != 3:
        return False
    a, b, n = told
    if not (is_integer(a) and is_integer(b) and is_integer(n)):
        return False
    return n >= 1 and gcd(a, b, n) == 1


def check_number(told):
    """Raise InvalidNumber unless told is a number."""
    if not is_number(told):
        raise InvalidNumber(told)


def check_integer(told):
    """Raise InvalidNumber unless told is an integer."""
    if not is_integer(told):
        raise InvalidNumber(told)


def number(a, b, n):
    """(a + b w) / n in its form."""
    check_integer(a)
    check_integer(b)
    check_integer(n)
    if n == 0:
        raise DividedByZero((a, b))
    return lowest(a, b, n)


def plus(p, q):
    """Two numbers, added."""
    check_number(p)
    check_number(q)
    return number_sum(p, q)


def minus(p, q):
    """One number less another one."""
    check_number(p)
    check_number(q)
    return number_less(p, q)


def scaled(p, k):
    """A number times an integer."""
    check_number(p)
    check_integer(k)
    a, b, n = p
    return lowest(a * k, b * k, n)


def times(kind, p, q):
    """The product of two numbers."""
    check_kind(kind)
    check_number(p)
    check_number(q)
    a, b = pair_times(kind, p[:2], q[:2])
    return lowest(a, b, p[2] * q[2])


def by(kind, p, q):
    """One number divided by another one."""
    check_kind(kind)
    check_number(p)
    check_number(q)
    if q == (0, 0, 1):
        raise DividedByZero(p)
    return number_by(kind, p, q)


def mate(kind, p):
    """The mate of a number."""
    check_kind(kind)
    check_number(p)
    a, b = pair_mate(kind, p[:2])
    return (a, b, p[2])


def norm(kind, p):
    """A number times its mate."""
    check_kind(kind)
    check_number(p)
    return lowest(pair_norm(kind, p[:2]), 0, p[2] * p[2])


def sign(kind, p):
    """-1, 0 or 1, as a number is below, at or above 0."""
    check_kind(kind)
    check_number(p)
    return whole_sign(kind, p[0], p[1])


def compared(kind, p, q):
    """-1, 0 or 1, as p is less than q, the same, greater."""
    check_kind(kind)
    check_number(p)
    check_number(q)
    return number_order(kind, p, q)


def floor_of(kind, p):
    """The greatest integer that is at most p."""
    check_kind(kind)
    check_number(p)
    return whole_floor(kind, p[0], p[1], p[2])


def about(kind, p, n):
    """The greatest integer that is at most p times 10 to the power n."""
    check_kind(kind)
    check_number(p)
    if not is_integer(n) or n < 0:
        raise InvalidNumber(n)
    power = 1
    for _ in range(n):
        power = power * 10
    return whole_floor(kind, p[0] * power, p[1] * power, p[2])


def unit(kind):
    """The least whole number above 1 whose norm is 1 or -1."""
    check_kind(kind)
    return UNITS[kind]


def stretch_unit(kind):
    """The least such number whose mate is above 0."""
    check_kind(kind)
    return STRETCH_UNITS[kind]

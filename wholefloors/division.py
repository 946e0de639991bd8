"""Whole numbers of a kind, as pairs, divided with a rest."""

from wholefloors.checks import check_kind, is_whole
from wholefloors.errors import DividedByZero, InvalidNumber
from wholefloors.quotients import Common, ZERO, exact_by, quotient_of, rest_by


def check_whole(told):
    """Raise InvalidNumber unless told is a pair of integers."""
    if not is_whole(told):
        raise InvalidNumber(told)


def divided(kind, p, q):
    """(quotient, rest): p is the quotient times q and the rest, of a norm nearer to 0 than that of q."""
    check_kind(kind)
    check_whole(p)
    check_whole(q)
    if q == ZERO:
        raise DividedByZero(p)
    quotient = quotient_of(kind, p, q)
    return (quotient, rest_by(kind, p, q, quotient))


def divides(kind, q, p):
    """True if p is q times a whole number."""
    check_kind(kind)
    check_whole(q)
    check_whole(p)
    return exact_by(kind, p, q) is not None


def common_divisor(kind, p, q):
    """(g, x, y): a common divisor of p and q that is p times x and q times y, added."""
    check_kind(kind)
    check_whole(p)
    check_whole(q)
    common = Common(kind, p, q)
    x, y = common.solution(common.divisor)
    return (common.divisor, x, y)


def solved(kind, p, q, c):
    """(x, y) by which p times x and q times y, added, is c, or None."""
    check_kind(kind)
    check_whole(p)
    check_whole(q)
    check_whole(c)
    return Common(kind, p, q).solution(c)

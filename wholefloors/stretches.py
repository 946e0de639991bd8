"""Matrices and units, and the floors that they take floors into."""

from wholefloors.checks import check_kind, check_radius, is_whole
from wholefloors.errors import InvalidMatrix, InvalidUnit
from wholefloors.fields import STRETCH_UNITS
from wholefloors.floors import check_floor, check_floors, check_place
from wholefloors.planes import are_left, polygon_at
from wholefloors.wholes import pair_less, pair_mate, pair_norm, pair_sum, pair_times, whole_sign
from wholefloors.windows import view_of

ZERO = (0, 0)


def is_matrix(kind, told):
    """True if told is a matrix ((p, q), (0, t)) of the kind."""
    check_kind(kind)
    if not isinstance(told, tuple) or len(told) != 2:
        return False
    for line in told:
        if not isinstance(line, tuple) or len(line) != 2 or not (is_whole(line[0]) and is_whole(line[1])):
            return False
    (p, _), (zero, t) = told
    return zero == ZERO and _keeps_sides(kind, p) and _keeps_sides(kind, t)


def _keeps_sides(kind, pair):
    """True if a pair is of norm 1 or -1, with a mate above 0."""
    a, b = pair_mate(kind, pair)
    return pair_norm(kind, pair) in (1, -1) and whole_sign(kind, a, b) > 0


def is_unit(kind, told):
    """True if told is a pair of norm 1 or -1, above 0, with a mate above 0."""
    check_kind(kind)
    return is_whole(told) and _keeps_sides(kind, told) and whole_sign(kind, told[0], told[1]) > 0


def check_matrix(kind, told):
    """Raise InvalidMatrix unless told is a matrix of the kind."""
    if not is_matrix(kind, told):
        raise InvalidMatrix(told)


def check_greater_unit(kind, told):
    """Raise InvalidUnit unless told is a unit of the kind above 1."""
    if not is_unit(kind, told) or whole_sign(kind, told[0] - 1, told[1]) <= 0:
        raise InvalidUnit(told)


def taken(kind, matrix, place):
    """The place that a matrix takes a place to."""
    check_kind(kind)
    check_matrix(kind, matrix)
    check_place(place)
    return _taken_pairs(kind, matrix, place[0], place[1])


def _taken_pairs(kind, matrix, x, y):
    """The pairs that a matrix takes two pairs to."""
    (p, q), (_, t) = matrix
    return (pair_sum(pair_times(kind, p, x), pair_times(kind, q, y)), pair_times(kind, t, y))


def undone(kind, matrix):
    """The matrix that takes each place back that a matrix has taken."""
    check_kind(kind)
    check_matrix(kind, matrix)
    (p, q), (_, t) = matrix
    first, second = _inverse(kind, p), _inverse(kind, t)
    between = pair_times(kind, first, pair_times(kind, q, second))
    return ((first, pair_less(ZERO, between)), (ZERO, second))


def _inverse(kind, pair):
    """1 by a pair of norm 1 or -1."""
    a, b = pair_mate(kind, pair)
    n = pair_norm(kind, pair)
    return (a * n, b * n)


def behind(kind, one, other):
    """The matrix that does first the other one and then the one."""
    check_kind(kind)
    check_matrix(kind, one)
    check_matrix(kind, other)
    (p, q), (_, t) = other
    first, _ = _taken_pairs(kind, one, p, ZERO)
    second, third = _taken_pairs(kind, one, q, t)
    return ((first, second), (ZERO, third))


def taken_floor(floor, matrix):
    """The floor whose places are those of a floor, taken by a matrix."""
    check_floor(floor)
    kind = floor[0]
    check_matrix(kind, matrix)
    (p, q), (_, t) = matrix
    mates = ((pair_mate(kind, p), pair_mate(kind, q)), (ZERO, pair_mate(kind, t)))
    corners = view_of(floor).corners
    return (kind, polygon_at(kind, tuple([_taken_spot(kind, mates, spot) for spot in corners])))


def _taken_spot(kind, matrix, spot):
    """The spot that a matrix takes a spot to."""
    (a, b), (c, d) = _taken_pairs(kind, matrix, spot[0:2], spot[2:4])
    return (a, b, c, d, spot[4])


def stretched(floor, unit):
    """The floor whose places are those of a floor, times a unit."""
    check_floor(floor)
    if not is_unit(floor[0], unit):
        raise InvalidUnit(unit)
    return taken_floor(floor, ((unit, ZERO), (ZERO, unit)))


def lies_within(one, other):
    """True if all places of the one are places of the other one."""
    check_floors(one, other)
    return are_left(one[0], view_of(other).lines, view_of(one).corners)


def least_power(one, other, most):
    """The least n to which the one, stretched by so many stretch units, lies within the other one, or None."""
    check_floors(one, other)
    check_radius(most)
    a, b, _ = STRETCH_UNITS[one[0]]
    floor = one
    for power in range(most + 1):
        if lies_within(floor, other):
            return power
        floor = stretched(floor, (a, b))
    return None

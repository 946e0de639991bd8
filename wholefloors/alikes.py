"""Which floors are one, or have the same patches, and how far they are apart."""

from wholefloors.cells import all_parts, share_of
from wholefloors.checks import check_radius
from wholefloors.floors import check_floors
from wholefloors.wholes import lowest, number_less, number_sum, whole_sign
from wholefloors.windows import view_of


def is_one(one, other):
    """True if two floors have the same places."""
    check_floors(one, other)
    return one == other


def alike(one, other):
    """The point by which the one's window is moved to be the other one's, or None."""
    check_floors(one, other)
    return _move(one[1], other[1])


def _move(one, other):
    """The point by which one polygon is moved to be another one, or None."""
    # Both begin with their least corners, wherever they are moved to.
    if len(one) != len(other):
        return None
    moves = [(number_less(x, a), number_less(y, b)) for (a, b), (x, y) in zip(one, other)]
    for move in moves:
        if move != moves[0]:
            return None
    return moves[0]


def first_unlike(one, other, most):
    """(r, patch): the least radius to which the patches of both differ, and the least that just one has, or None."""
    check_floors(one, other)
    check_radius(most)
    # What is moved has the same patches to every radius.
    if _move(one[1], other[1]) is not None:
        return None
    view, second = view_of(one), view_of(other)
    for radius in range(most + 1):
        ones, others = all_parts(view, radius), all_parts(second, radius)
        unlike = [patch for patch in ones if patch not in others] + [patch for patch in others if patch not in ones]
        if unlike:
            return (radius, min(unlike))
    return None


def apart(one, other, r):
    """Half of the sum of how much the shares of all patches to a radius differ."""
    check_floors(one, other)
    check_radius(r)
    kind = one[0]
    ones, others = _shares(one, r), _shares(other, r)
    total = (0, 0, 1)
    for patch in list(ones) + [told for told in others if told not in ones]:
        a, b, n = number_less(ones.get(patch, (0, 0, 1)), others.get(patch, (0, 0, 1)))
        sign = whole_sign(kind, a, b)
        total = number_sum(total, (sign * a, sign * b, n))
    return lowest(total[0], total[1], 2 * total[2])


def _shares(floor, radius):
    """A dict of the patches of a floor, each with its share."""
    view = view_of(floor)
    parts = all_parts(view, radius)
    return {patch: share_of(view, parts[patch]) for patch in parts}

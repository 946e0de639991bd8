"""What one floor tells of another one by its patches."""

from wholefloors.cells import place_among
from wholefloors.checks import check_radius
from wholefloors.errors import NotTold
from wholefloors.floors import check_floors, check_places_of
from wholefloors.patches import patch_at
from wholefloors.tellings import Telling, spread_of
from wholefloors.wholes import place_sum
from wholefloors.windows import view_of


def spread(one, other):
    """The least integer within which, in each number, of each place of the other floor there is one of the one."""
    check_floors(one, other)
    return spread_of(one, other)


def tells(one, other, r):
    """True if the one tells the other one to a radius."""
    check_floors(one, other)
    check_radius(r)
    return Telling(one, other).rule(r) is not None


def telling_rule(one, other, r):
    """The telling rule to a radius: an ascending tuple of (patch, steps)."""
    check_floors(one, other)
    check_radius(r)
    return _rule(one, other, r)


def parted(one, other, r):
    """(x, y, d) by which the one does not tell the other one, or None.

    x and y are places of the one with one patch, x and d, added, is a place of the other one, y and d not.
    """
    check_floors(one, other)
    check_radius(r)
    found = Telling(one, other).parting(r)
    if found is None:
        return None
    inside, outside, step = found
    return (place_among(one[0], inside), place_among(one[0], outside), step)


def least_telling(one, other, most):
    """The least radius, to most, to which the one tells the other one, or None."""
    check_floors(one, other)
    check_radius(most)
    telling = Telling(one, other)
    for radius in range(most + 1):
        if telling.rule(radius) is not None:
            return radius
    return None


def told_places(one, other, r, some):
    """The ascending tuple of the places that come of some places of the one by the telling rule."""
    check_floors(one, other)
    check_radius(r)
    view = view_of(one)
    check_places_of(view, some)
    steps_of = {patch: steps for patch, steps in _rule(one, other, r)}
    found = {}
    for place in some:
        for step in steps_of[patch_at(view, place, r)]:
            found[place_sum(place, step)] = True
    return tuple(sorted(found))


def _rule(one, other, r):
    """The telling rule to a radius, if there is one."""
    rule = Telling(one, other).rule(r)
    if rule is None:
        raise NotTold(r)
    return rule

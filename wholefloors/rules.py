"""Growing rules: which places come of a place that is stretched by a unit, by the place's patch."""

from wholefloors.cells import place_among
from wholefloors.checks import check_radius
from wholefloors.errors import InvalidRule
from wholefloors.floors import check_floor, check_places_of, is_place
from wholefloors.growths import growths_of, ungrown_of
from wholefloors.patches import patch_at
from wholefloors.stretches import check_greater_unit
from wholefloors.wholes import pair_times, place_sum
from wholefloors.windows import view_of


def rule(floor, unit, r):
    """The growing rule of a floor: an ascending tuple of (patch, steps)."""
    _check_stretch(floor, unit, r)
    return _rule(view_of(floor), unit, r)


def grows(floor, unit, r):
    """True if the growing rule grows the floor."""
    return not _ungrown(floor, unit, r)


def ungrown(floor, unit, r):
    """A place of the floor that comes of none by the growing rule, or None."""
    left = _ungrown(floor, unit, r)
    if not left:
        return None
    return place_among(floor[0], [corners for corners, _ in left])


def grown(floor, unit, r, some):
    """The ascending tuple of the places that come of some places of the floor by the growing rule."""
    _check_stretch(floor, unit, r)
    view = view_of(floor)
    check_places_of(view, some)
    steps_of = {patch: steps for patch, steps in _rule(view, unit, r)}
    found = {}
    for x, y in some:
        there = (pair_times(view.kind, unit, x), pair_times(view.kind, unit, y))
        for step in steps_of[patch_at(view, (x, y), r)]:
            found[place_sum(there, step)] = True
    return tuple(sorted(found))


def is_rule(floor, unit, r, told):
    """True if told is the growing rule."""
    _check_stretch(floor, unit, r)
    _check_form(told)
    return told == _rule(view_of(floor), unit, r)


def _check_stretch(floor, unit, r):
    """Raise what is due for a floor, a unit above 1 and a radius."""
    check_floor(floor)
    check_greater_unit(floor[0], unit)
    check_radius(r)


def _check_form(told):
    """Raise InvalidRule unless told is a tuple of pairs of tuples of places."""
    if not isinstance(told, tuple):
        raise InvalidRule(told)
    for pair in told:
        if not isinstance(pair, tuple) or len(pair) != 2:
            raise InvalidRule(told)
        for places in pair:
            if not isinstance(places, tuple) or not all(is_place(place) for place in places):
                raise InvalidRule(told)


def _rule(view, unit, r):
    """The growing rule, unchecked."""
    return tuple([(patch, steps) for patch, steps, _ in growths_of(view, unit, r)])


def _ungrown(floor, unit, r):
    """The pieces of a floor's window in which lie the mates of the places that come of none."""
    _check_stretch(floor, unit, r)
    view = view_of(floor)
    return ungrown_of(view, growths_of(view, unit, r))

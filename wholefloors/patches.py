"""The patches of a floor's places."""

from wholefloors.cells import HERE, all_parts, common_with, near_places, part_of, place_among, share_of
from wholefloors.checks import check_radius
from wholefloors.errors import InvalidPair, InvalidPatch, NoPatch, NotInFloor
from wholefloors.floors import check_floor, check_place, is_place
from wholefloors.polygons import polygons_at
from wholefloors.wholes import place_back, place_size, place_sum
from wholefloors.windows import has_mate, places_about, view_of


def near(floor, r):
    """The ascending list of the places that stand in patches to a radius."""
    check_floor(floor)
    check_radius(r)
    return near_places(view_of(floor), r)


def patch_of(floor, place, r):
    """The patch of a place."""
    check_floor(floor)
    check_place(place)
    check_radius(r)
    view = view_of(floor)
    if not has_mate(view, place):
        raise NotInFloor(place)
    return patch_at(view, place, r)


def patch_at(view, place, r):
    """The patch of a place of a floor, unchecked."""
    back = place_back(place)
    steps = [place_sum(told, back) for told in places_about(view, place, r)]
    return tuple(sorted([step for step in steps if step != HERE]))


def check_patch(floor, r, patch):
    """Raise what is due for a floor, a radius and a patch to it that are not right."""
    check_floor(floor)
    check_radius(r)
    if not isinstance(patch, tuple) or not all(is_place(told) for told in patch):
        raise InvalidPatch(patch)
    for at, step in enumerate(patch):
        if step == HERE or place_size(floor[0], step) > r or at > 0 and patch[at - 1] >= step:
            raise InvalidPatch(patch)


def part(floor, r, patch):
    """An ascending tuple of polygons that make up the part of a patch, () if it does not come."""
    check_patch(floor, r, patch)
    return polygons_at(floor[0], part_of(view_of(floor), r, patch))


def share(floor, r, patch):
    """The share of the places that have a patch."""
    check_patch(floor, r, patch)
    view = view_of(floor)
    return share_of(view, part_of(view, r, patch))


def comes(floor, r, patch):
    """True if a patch comes."""
    check_patch(floor, r, patch)
    return part_of(view_of(floor), r, patch) != []


def patches(floor, r):
    """The ascending list of (patch, share) of all patches that come."""
    check_floor(floor)
    check_radius(r)
    view = view_of(floor)
    parts = all_parts(view, r)
    return [(patch, share_of(view, parts[patch])) for patch in sorted(parts)]


def found(floor, r, patch):
    """A place of the floor that has a patch."""
    check_patch(floor, r, patch)
    pieces = part_of(view_of(floor), r, patch)
    if not pieces:
        raise NoPatch(patch)
    return place_among(floor[0], pieces)


def how_often(floor, r, step):
    """The share of the places whose patch has a place."""
    check_floor(floor)
    check_place(step)
    check_radius(r)
    if step == HERE or place_size(floor[0], step) > r:
        raise InvalidPair((r, step))
    view = view_of(floor)
    common = common_with(view, step)
    return share_of(view, [] if common is None else [common])

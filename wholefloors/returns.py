"""Within which distance patches come again."""

from wholefloors.cells import all_parts, part_of, place_among
from wholefloors.checks import check_radius
from wholefloors.covers import Cover, distance_of
from wholefloors.errors import NoPatch
from wholefloors.floors import check_floor
from wholefloors.patches import check_patch
from wholefloors.windows import view_of


def again(floor, r, patch):
    """The least distance within which a patch comes again."""
    return distance_of(_cover_by(floor, r, patch))


def is_again(floor, r, patch, far):
    """True if a patch comes again within a distance."""
    cover = _cover_by(floor, r, patch)
    check_radius(far)
    return not _left_within(cover, far)


def lonely(floor, r, patch, far):
    """A place of the floor from which a patch does not come within a distance, or None."""
    cover = _cover_by(floor, r, patch)
    check_radius(far)
    left = _left_within(cover, far)
    if not left:
        return None
    return place_among(floor[0], [corners for corners, _ in left])


def all_again(floor, r):
    """The greatest distance within which a patch that comes comes again."""
    check_floor(floor)
    check_radius(r)
    view = view_of(floor)
    parts = all_parts(view, r)
    return max([distance_of(Cover(view, parts[patch])) for patch in parts])


def _cover_by(floor, r, patch):
    """The cover of the window by the part of a patch that comes."""
    check_patch(floor, r, patch)
    view = view_of(floor)
    pieces = part_of(view, r, patch)
    if not pieces:
        raise NoPatch(patch)
    return Cover(view, pieces)


def _left_within(cover, far):
    """What is left of the window within a distance."""
    for radius in range(far + 1):
        cover.take(radius)
        if not cover.left:
            return []
    return cover.left

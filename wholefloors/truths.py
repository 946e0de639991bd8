"""Of which places of a floor a saying is true: of all, of none, of how many, and how near they are."""

from wholefloors.cells import all_parts, place_among, share_of
from wholefloors.covers import Cover, distance_of
from wholefloors.floors import check_floor
from wholefloors.pieces import split_by, takers_of
from wholefloors.planes import centre_of, is_inside
from wholefloors.polygons import polygons_at
from wholefloors.sayings import check_saying, reach_of
from wholefloors.splits import split_of
from wholefloors.windows import view_of


def saying_region(floor, saying):
    """A region of the mates of the places of which a saying is true."""
    check_floor(floor)
    check_saying(saying)
    yes, _ = split_of(view_of(floor), saying)
    return polygons_at(floor[0], _corners(yes))


def saying_share(floor, saying):
    """The share of the places of which a saying is true."""
    check_floor(floor)
    check_saying(saying)
    view = view_of(floor)
    yes, _ = split_of(view, saying)
    return share_of(view, _corners(yes))


def decided(floor, saying):
    """The right paper of a saying: ("all",), ("none",) or ("some", x, y), true of x and not of y."""
    check_floor(floor)
    check_saying(saying)
    yes, no = split_of(view_of(floor), saying)
    if not no:
        return ("all",)
    if not yes:
        return ("none",)
    return ("some", _place_in(floor, yes), _place_in(floor, no))


def same_sayings(floor, one, other):
    """True if two sayings are true of the same places."""
    return unlike(floor, one, other) is None


def implies(floor, one, other):
    """True if the other saying is true wherever the one is."""
    ones, others = _both_of(floor, one, other)
    return not _rest(floor, ones, others)


def unlike(floor, one, other):
    """A place of which just one of two sayings is true, or None."""
    ones, others = _both_of(floor, one, other)
    rest = _rest(floor, ones, others) + _rest(floor, others, ones)
    if not rest:
        return None
    return _place_in(floor, rest)


def again_true(floor, saying):
    """The least integer within which of each place there is one of which a saying is true, None if there is none."""
    check_floor(floor)
    check_saying(saying)
    view = view_of(floor)
    yes, _ = split_of(view, saying)
    if not yes:
        return None
    return distance_of(Cover(view, _corners(yes)))


def true_patches(floor, saying):
    """The ascending list of the patches to a saying's reach at which it is true."""
    check_floor(floor)
    check_saying(saying)
    kind = floor[0]
    view = view_of(floor)
    takers = takers_of(kind, split_of(view, saying)[0])
    parts = all_parts(view, reach_of(kind, saying))
    # It hangs on the patch alone, so that any point of a patch's part tells.
    return [patch for patch in sorted(parts) if _has_spot(kind, takers, centre_of(parts[patch][0]))]


def _both_of(floor, one, other):
    """The pieces of two sayings, checked."""
    check_floor(floor)
    check_saying(one)
    check_saying(other)
    view = view_of(floor)
    return split_of(view, one)[0], split_of(view, other)[0]


def _corners(pieces):
    """The corners of some pieces."""
    return [corners for corners, _ in pieces]


def _place_in(floor, pieces):
    """A place of a floor whose mate is in one of some pieces."""
    return place_among(floor[0], _corners(pieces))


def _rest(floor, ones, others):
    """What some pieces have that no one of other pieces has: pieces."""
    return split_by(floor[0], ones, takers_of(floor[0], others))[1]


def _has_spot(kind, takers, spot):
    """True if one of some takers has a spot."""
    for lines, _ in takers:
        if is_inside(kind, lines, spot):
            return True
    return False

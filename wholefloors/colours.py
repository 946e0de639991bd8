"""The colours that sayings give to the places of a floor, and which sayings follow from others."""

from itertools import combinations
from wholefloors.cells import place_among, share_of
from wholefloors.errors import InvalidSaying, NotInFloor
from wholefloors.floors import check_floor, check_place
from wholefloors.sayings import Truths, check_saying
from wholefloors.splits import parts_by, split_of, together, window_pieces
from wholefloors.windows import has_mate, view_of


def check_sayings(told):
    """Raise InvalidSaying unless told is a tuple of sayings."""
    if not isinstance(told, tuple):
        raise InvalidSaying(told)
    for saying in told:
        check_saying(saying)


def colour_of(floor, sayings, place):
    """The colour of a place: 1 or 0 for each saying, as it is true of the place."""
    check_floor(floor)
    check_sayings(sayings)
    check_place(place)
    view = view_of(floor)
    if not has_mate(view, place):
        raise NotInFloor(place)
    return tuple([1 if Truths(view, saying).is_true(0, place) else 0 for saying in sayings])


def colours(floor, sayings):
    """The ascending list of (colour, share) of the colours that come."""
    check_floor(floor)
    check_sayings(sayings)
    view = view_of(floor)
    found = _coloured(view, sayings)
    return [(colour, share_of(view, found[colour])) for colour in sorted(found)]


def follows(floor, sayings, saying):
    """True if a saying is true of both or none of any two places with one colour."""
    found = _coloured_with(floor, sayings, saying)
    return _first_unlike(found) is None


def not_following(floor, sayings, saying):
    """Two places (x, y) with one colour, a saying being true of x and not of y, or None."""
    found = _coloured_with(floor, sayings, saying)
    colour = _first_unlike(found)
    if colour is None:
        return None
    return (place_among(floor[0], found[colour + (1,)]), place_among(floor[0], found[colour + (0,)]))


def least_sayings(floor, sayings, saying):
    """The tuple of the indexes of the fewest sayings by which a saying follows, of as few the first one, or None."""
    found = _coloured_with(floor, sayings, saying)
    many = len(sayings)
    for size in range(many + 1):
        for some in combinations(range(many), size):
            # By what is left of the colours, told by some sayings alone, it follows just as by all.
            left = {tuple([colour[at] for at in some]) + colour[many:]: True for colour in found}
            if _first_unlike(left) is None:
                return some
    return None


def _coloured_with(floor, sayings, saying):
    """The parts of the colours of a floor by sayings and one more, checked."""
    check_floor(floor)
    check_sayings(sayings)
    check_saying(saying)
    return _coloured(view_of(floor), sayings + (saying,))


def _coloured(view, sayings):
    """A dict of the colours that come, each with the corners of the pieces that make up its part of the window."""
    parts = {(): window_pieces(view)}
    for saying in sayings:
        split = split_of(view, saying)
        finer = {}
        for colour in parts:
            inside, outside = parts_by(view.kind, parts[colour], split)
            if inside:
                finer[colour + (1,)] = together(view.kind, inside)
            if outside:
                finer[colour + (0,)] = together(view.kind, outside)
        parts = finer
    return {colour: [corners for corners, _ in parts[colour]] for colour in parts}


def _first_unlike(found):
    """A colour, but for its last number, that comes with 1 and with 0 behind it, or None."""
    for colour in found:
        if colour[-1] == 1 and colour[:-1] + (0,) in found:
            return colour[:-1]
    return None

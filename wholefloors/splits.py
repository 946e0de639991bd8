"""A window, split by what is said of places, unchecked.

A split is (yes, no): pieces, no two with a point in common, which together are the window; a saying
is true of the places whose mates are in the pieces of yes, and of no place with its mate in those of no.
"""

from wholefloors.cells import HERE, near_places
from wholefloors.merges import merged
from wholefloors.pieces import moved_takers, pieces_of, split_by, takers_of
from wholefloors.planes import mate_spot


def window_pieces(view):
    """The window as pieces."""
    return pieces_of(view.kind, [view.corners])


def split_of(view, saying):
    """The split of a window by a saying."""
    word = saying[0]
    if word == "all":
        return window_pieces(view), []
    if word == "has":
        return _there(view, saying[1], window_pieces(view))
    if word == "not":
        yes, no = split_of(view, saying[1])
        return no, yes
    if word == "step":
        yes, _ = split_of(view, saying[2])
        return _there(view, saying[1], yes)
    if word == "both":
        return _both(view.kind, split_of(view, saying[1]), split_of(view, saying[2]))
    if word == "either":
        # At least one is true where not both are untrue.
        no, yes = _both(view.kind, _turned(split_of(view, saying[1])), _turned(split_of(view, saying[2])))
        return yes, no
    least = saying[2] if word == "many" else 1
    return _counted(view, split_of(view, saying[-1])[0], saying[1], least)


def _turned(split):
    """The split by the contrary."""
    yes, no = split
    return no, yes


def _both(kind, one, other):
    """The split by what two splits are both made by."""
    inside, outside = parts_by(kind, one[0], other)
    return together(kind, inside), together(kind, outside + [corners for corners, _ in one[1]])


def together(kind, polygons):
    """The pieces of some polygons, told by their corners, no two with a point in common."""
    return pieces_of(kind, merged(kind, polygons))


def parts_by(kind, pieces, split):
    """(inside, outside): the corners of what some pieces of the window have of a split's yes and of its no."""
    yes, no = split
    # What is told by fewer pieces is sooner cut off.
    if len(yes) <= len(no):
        inside, left = split_by(kind, pieces, takers_of(kind, yes))
        return inside, [corners for corners, _ in left]
    outside, left = split_by(kind, pieces, takers_of(kind, no))
    return [corners for corners, _ in left], outside


def _there(view, step, yes):
    """The split of a window by whether a place, and a step, added, has its mate in some pieces."""
    kind = view.kind
    takers = moved_takers(kind, takers_of(kind, yes), mate_spot(kind, step))
    inside, left = split_by(kind, window_pieces(view), takers)
    return together(kind, inside), together(kind, [corners for corners, _ in left])


def _counted(view, yes, radius, least):
    """The split of a window by whether so many places within a radius, at least, have their mates in some pieces."""
    kind = view.kind
    steps = [HERE] + near_places(view, radius)
    if least > len(steps):
        return [], window_pieces(view)
    takers = takers_of(kind, yes)
    # What has been found to have so many such places, by their number; what has the least number is done.
    waiting = {0: window_pieces(view)}
    for at, step in enumerate(steps):
        moved = moved_takers(kind, takers, mate_spot(kind, step))
        waiting = _counted_once(kind, waiting, moved, (least, len(steps) - at))
    no = [corners for many in waiting for corners, _ in waiting[many] if many < least]
    return waiting.get(least, []), together(kind, no)


def _counted_once(kind, waiting, moved, bounds):
    """Pieces by their numbers, if one place more is counted where a taker has a point."""
    least, left = bounds
    counted = {}
    for many in waiting:
        # What has enough, or can not get enough, is not cut any more.
        if many >= least or many + left < least:
            counted.setdefault(many, []).extend(waiting[many])
            continue
        inside, outside = split_by(kind, waiting[many], moved)
        counted.setdefault(many, []).extend(outside)
        counted.setdefault(many + 1, []).extend(pieces_of(kind, inside))
    return {many: together(kind, [corners for corners, _ in counted[many]]) for many in counted}

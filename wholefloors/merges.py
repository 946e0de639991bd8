"""Polygons put together where two of them make one, unchecked.

Whoever cuts a window again and again has many small polygons; put together, they are fewer to cut.
"""

from wholefloors.planes import line_through, side


def merged(kind, polygons):
    """Polygons, told by their corners, no two with a point in common, with the points of some such ones."""
    left = polygons
    while True:
        fewer = _merged_once(kind, left)
        if len(fewer) == len(left):
            return fewer
        left = fewer


def _merged_once(kind, polygons):
    """Some polygons, each put together with another one at most."""
    rims = {}
    for at, corners in enumerate(polygons):
        for k, spot in enumerate(corners):
            rims[(spot, corners[k - len(corners) + 1])] = (at, k)
    used = {}
    found = []
    for at, corners in enumerate(polygons):
        if at not in used:
            found.append(_with_neighbour(kind, (at, polygons), rims, used))
    return found


def _with_neighbour(kind, told, rims, used):
    """A polygon of an index, put together with an unused one that has a rim with it, if both make a polygon."""
    at, polygons = told
    corners = polygons[at]
    used[at] = True
    for k, spot in enumerate(corners):
        other, j = rims.get((corners[k - len(corners) + 1], spot), (at, 0))
        if other not in used:
            both = _together(kind, corners[k + 1:] + corners[:k + 1], polygons[other][j + 1:] + polygons[other][:j + 1])
            if both is not None:
                used[other] = True
                return both
    return corners


def _together(kind, one, other):
    """The corners of two polygons whose rims from their last corners to their first ones are one, or None."""
    # Where the rim ends, the outer rims of both meet.
    first = side(kind, line_through(kind, other[-2], one[0]), one[1])
    last = side(kind, line_through(kind, one[-2], other[0]), other[1])
    if first < 0 or last < 0:
        return None
    # A corner at which both go straight on is none of the whole.
    return (one if first > 0 else one[1:])[:-1] + (other if last > 0 else other[1:])[:-1]

"""What comes of the places of a floor that are stretched by a unit, unchecked."""

from wholefloors.cells import all_parts
from wholefloors.pieces import box_around, moved_takers, pieces_of, rest_of, takers_of
from wholefloors.planes import are_left, heights_of, mate_spot
from wholefloors.wholes import number_less, pair_mate, pair_times, place_back
from wholefloors.windows import span_of, wholes_between


def growths_of(view, unit, radius):
    """The ascending list of (patch, steps, part) by a unit, the part being the patch's, times the unit's mate."""
    parts = all_parts(view, radius)
    found = []
    for patch in sorted(parts):
        part = [_times_mate(view.kind, unit, corners) for corners in parts[patch]]
        found.append((patch, _steps_of(view, unit, part), part))
    return found


def _times_mate(kind, unit, corners):
    """The corners of a polygon, times a unit's mate."""
    mate = pair_mate(kind, unit)
    found = []
    for spot in corners:
        a, b = pair_times(kind, mate, spot[0:2])
        c, d = pair_times(kind, mate, spot[2:4])
        found.append((a, b, c, d, spot[4]))
    return tuple(found)


def _steps_of(view, unit, part):
    """The ascending tuple of the places within a unit by whose mates a part is moved into the window."""
    kind = view.kind
    spots = [spot for corners in part for spot in corners]
    within = ((-unit[0], -unit[1], 1), (unit[0], unit[1], 1))
    across = _room(view.across, span_of(kind, [(spot[0], spot[1], spot[4]) for spot in spots]))
    upward = _room(view.upward, span_of(kind, [(spot[2], spot[3], spot[4]) for spot in spots]))
    firsts = wholes_between(kind, within, across)
    seconds = wholes_between(kind, within, upward)
    lines = [_line_of_moves(kind, line, spots) for line in view.lines]
    found = [(first, second) for first in firsts for second in seconds]
    return tuple(sorted([step for step in found if are_left(kind, lines, (mate_spot(kind, step),))]))


def _room(span, part):
    """The span of the numbers by which a part's span is moved into a span."""
    return (number_less(span[0], part[0]), number_less(span[1], part[1]))


def _line_of_moves(kind, line, spots):
    """The line to the left of which, or on which, lie all by which no one of some spots is moved to a line's right."""
    heights = heights_of(kind, line, spots)
    (a, b, n), _ = span_of(kind, [(p, q, spot[4]) for (p, q), spot in zip(heights, spots)])
    return (line[0] * n, line[1] * n, line[2] * n, line[3] * n, a, b)


def ungrown_of(view, growths):
    """The pieces of a window in which lie the mates of the places that come of none."""
    kind = view.kind
    grown = []
    for _, steps, part in growths:
        takers = takers_of(kind, pieces_of(kind, part))
        for step in steps:
            grown.extend(moved_takers(kind, takers, mate_spot(kind, place_back(step))))
    return rest_of(kind, (view.corners, box_around(kind, view.corners)), grown)

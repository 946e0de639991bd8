"""The parts of a floor's window in which lie the mates of the places with one patch, unchecked."""

from wholefloors.planes import area_of, areas_of, common_part, mate_spot, moved_lines, parted
from wholefloors.wholes import number_by, number_less, number_order
from wholefloors.windows import View, about_place, place_near, wholes_between

HERE = ((0, 0), (0, 0))


def near_places(view, radius):
    """The ascending list of the places, other than HERE, that stand in patches to a radius."""
    kind = view.kind
    across, upward = about_place(HERE, radius)
    firsts = wholes_between(kind, across, _differences(view.across))
    seconds = wholes_between(kind, upward, _differences(view.upward))
    found = [(first, second) for first in firsts for second in seconds]
    return sorted([step for step in found if step != HERE and common_with(view, step) is not None])


def _differences(span):
    """The span of one number of a span less another one."""
    low, high = span
    return (number_less(low, high), number_less(high, low))


def lines_back(view, step):
    """The lines of the window, moved by minus the mate of a place."""
    return moved_lines(view.kind, view.lines, mate_spot(view.kind, step))


def common_with(view, step):
    """What the window and the window moved by minus the mate of a place have in common: corners, or None."""
    return common_part(view.kind, view.corners, lines_back(view, step))


def part_of(view, radius, patch):
    """The corners of pieces, no two with a point in common, that make up the part of a patch."""
    kind = view.kind
    steps = near_places(view, radius)
    if not all(told in steps for told in patch):
        return []
    piece = view.corners
    for step in patch:
        piece = common_part(kind, piece, lines_back(view, step))
        if piece is None:
            return []
    pieces = [piece]
    for step in steps:
        if step not in patch:
            lines = lines_back(view, step)
            pieces = [outer for corners in pieces for outer in parted(kind, corners, lines)[1]]
    return pieces


def all_parts(view, radius):
    """A dict of the patches that come, each with the corners of the pieces that make up its part."""
    kind = view.kind
    cells = [(view.corners, ())]
    for step in near_places(view, radius):
        lines = lines_back(view, step)
        finer = []
        for corners, patch in cells:
            inside, outside = parted(kind, corners, lines)
            if inside is not None:
                finer.append((inside, patch + (step,)))
            finer.extend([(outer, patch) for outer in outside])
        cells = finer
    found = {}
    for corners, patch in cells:
        found.setdefault(patch, []).append(corners)
    return found


def place_among(kind, pieces):
    """A place whose mate is in one of some pieces."""
    # Where most room is, places with small numbers are found soonest.
    best, most = pieces[0], (0, 0, 1)
    for corners in pieces:
        area = area_of(kind, corners)
        if number_order(kind, area, most) > 0:
            best, most = corners, area
    return place_near(View(kind, best), HERE)


def share_of(view, pieces):
    """The area of some pieces by that of the window."""
    return number_by(view.kind, areas_of(view.kind, pieces), area_of(view.kind, view.corners))

"""Pieces, polygons with boxes around them, and what they have in common or not, unchecked.

A piece is (corners, box), a taker (lines, box), the lines being those of a polygon's rims. A box
(left, low, right, high) is told in steps of 1 by 2 to the power ROUGH, rounded outward: what lies
in boxes that do not meet has no point in common, and need not be cut.
"""

from wholefloors.planes import common_part, lines_of, moved_lines, parted
from wholefloors.wholes import whole_floor

ROUGH = 20


def box_around(kind, corners):
    """The box that has some corners inside or on its rim."""
    firsts = [whole_floor(kind, spot[0] << ROUGH, spot[1] << ROUGH, spot[4]) for spot in corners]
    seconds = [whole_floor(kind, spot[2] << ROUGH, spot[3] << ROUGH, spot[4]) for spot in corners]
    return (min(firsts), min(seconds), max(firsts) + 1, max(seconds) + 1)


def boxes_meet(one, other):
    """True if two boxes have a point in common."""
    return one[0] <= other[2] and other[0] <= one[2] and one[1] <= other[3] and other[1] <= one[3]


def pieces_of(kind, polygons):
    """The pieces of some polygons, each told by its corners."""
    return [(corners, box_around(kind, corners)) for corners in polygons]


def takers_of(kind, pieces):
    """The takers of some pieces."""
    return [(lines_of(kind, corners), box) for corners, box in pieces]


def moved_takers(kind, takers, back):
    """Takers, moved by minus a spot whose n is 1."""
    right, up = [whole_floor(kind, back[at] << ROUGH, back[at + 1] << ROUGH, 1) for at in (0, 2)]
    found = []
    for lines, box in takers:
        moved_box = (box[0] - right - 1, box[1] - up - 1, box[2] - right, box[3] - up)
        found.append((moved_lines(kind, lines, back), moved_box))
    return found


def split_by(kind, pieces, takers):
    """(inside, outside): of some pieces the corners of what a taker has, and the pieces of what none has."""
    inside = []
    left = pieces
    for lines, around in takers:
        finer = []
        for corners, box in left:
            if not boxes_meet(box, around):
                finer.append((corners, box))
                continue
            within, beyond = parted(kind, corners, lines)
            if within is None:
                finer.append((corners, box))
            else:
                inside.append(within)
                finer.extend(pieces_of(kind, beyond))
        left = finer
    return inside, left


def rest_of(kind, piece, takers):
    """What of a piece no taker has: pieces, no two with a point in common."""
    return split_by(kind, [piece], takers)[1]


def common_pieces(kind, piece, takers):
    """What a piece has in common with each taker: pieces."""
    corners, box = piece
    found = []
    for lines, around in takers:
        if boxes_meet(box, around):
            inside = common_part(kind, corners, lines)
            if inside is not None:
                found.append(inside)
    return pieces_of(kind, found)


def pieces_less(kind, ones, others):
    """What some pieces have that no one of other pieces has: pieces."""
    takers = takers_of(kind, others)
    return [rest for piece in ones for rest in rest_of(kind, piece, takers)]


def are_apart(kind, pieces):
    """True if no two of some pieces have a point in common."""
    takers = takers_of(kind, pieces)
    order = sorted([(piece[1][0], at) for at, piece in enumerate(pieces)])
    for place, (_, at) in enumerate(order):
        corners, box = pieces[at]
        # Whoever begins further to the right than this one ends is apart from it, and so are all behind.
        for behind in range(place + 1, len(order)):
            left, other = order[behind]
            if left > box[2]:
                break
            lines, around = takers[other]
            if boxes_meet(box, around) and common_part(kind, corners, lines) is not None:
                return False
    return True


def apart_from(kind, pieces):
    """What some pieces have, as pieces of which no two have a point in common."""
    # With the widest ones ahead fewer pieces are cut.
    order = sorted([(-_room(box), at) for at, (_, box) in enumerate(pieces)])
    ahead, found = [], []
    for _, at in order:
        found.extend(rest_of(kind, pieces[at], ahead))
        ahead.extend(takers_of(kind, [pieces[at]]))
    return found


def _room(box):
    """The area of a box."""
    return (box[2] - box[0]) * (box[3] - box[1])

"""Regions: ascending tuples of polygons of a kind, no two of which have a point in common."""

from wholefloors.checks import check_kind
from wholefloors.errors import InvalidPolygon, InvalidRegion
from wholefloors.pieces import apart_from, are_apart, common_pieces, pieces_less, pieces_of, rest_of, takers_of
from wholefloors.planes import areas_of, centre_of, is_inside, lines_of, point_at, spot_of
from wholefloors.polygons import check_point, check_polygon, corners_of, is_polygon, moved, polygons_at


def is_region(kind, told):
    """True if told is a region of the kind."""
    check_kind(kind)
    if not isinstance(told, tuple):
        return False
    for polygon in told:
        if not is_polygon(kind, polygon):
            return False
    for at in range(1, len(told)):
        if told[at - 1] >= told[at]:
            return False
    return are_apart(kind, _pieces(kind, told))


def check_region(kind, told):
    """Raise InvalidRegion unless told is a region of the kind."""
    if not is_region(kind, told):
        raise InvalidRegion(told)


def region_of(kind, polygons):
    """A region of all points of a list or tuple of polygons, which may have points in common."""
    check_kind(kind)
    if not isinstance(polygons, (list, tuple)):
        raise InvalidPolygon(polygons)
    for polygon in polygons:
        check_polygon(kind, polygon)
    return _region(kind, apart_from(kind, _pieces(kind, polygons)))


def joined(kind, one, other):
    """A region of the points that at least one of two regions has."""
    ones, others = _both(kind, one, other)
    return _region(kind, ones + pieces_less(kind, others, ones))


def both_of(kind, one, other):
    """A region of the points that two regions have in common."""
    ones, others = _both(kind, one, other)
    takers = takers_of(kind, others)
    return _region(kind, [common for piece in ones for common in common_pieces(kind, piece, takers)])


def less_of(kind, one, other):
    """A region of the points that the one region has and the other one has not."""
    ones, others = _both(kind, one, other)
    return _region(kind, pieces_less(kind, ones, others))


def moved_region(kind, region, point):
    """The region of a region's polygons, each moved by a point."""
    check_kind(kind)
    check_region(kind, region)
    check_point(point)
    # The sequence of polygons that are compared as tuples may be another one where they are moved to.
    return tuple(sorted([moved(kind, polygon, point) for polygon in region]))


def region_area(kind, region):
    """The area of a region."""
    check_kind(kind)
    check_region(kind, region)
    return areas_of(kind, [corners_of(polygon) for polygon in region])


def has_point(kind, region, point):
    """True if a region has a point."""
    check_kind(kind)
    check_region(kind, region)
    check_point(point)
    spot = spot_of(point)
    for polygon in region:
        if is_inside(kind, lines_of(kind, corners_of(polygon)), spot):
            return True
    return False


def lies_in(kind, one, other):
    """True if all points of the one region are the other one's."""
    ones, others = _both(kind, one, other)
    return _first_rest(kind, ones, others) is None


def same_region(kind, one, other):
    """True if two regions have the same points."""
    return parting(kind, one, other) is None


def parting(kind, one, other):
    """A point that just one of two regions has, or None."""
    ones, others = _both(kind, one, other)
    corners = _first_rest(kind, ones, others)
    if corners is None:
        corners = _first_rest(kind, others, ones)
    if corners is None:
        return None
    return point_at(centre_of(corners))


def _both(kind, one, other):
    """The pieces of two regions, checked."""
    check_kind(kind)
    check_region(kind, one)
    check_region(kind, other)
    return _pieces(kind, one), _pieces(kind, other)


def _pieces(kind, polygons):
    """The pieces of some polygons."""
    return pieces_of(kind, [corners_of(polygon) for polygon in polygons])


def _region(kind, pieces):
    """The region of some pieces of which no two have a point in common."""
    return polygons_at(kind, [corners for corners, _ in pieces])


def _first_rest(kind, ones, others):
    """The corners of a polygon whose points the ones have and the others have not, or None."""
    takers = takers_of(kind, others)
    for piece in ones:
        rest = rest_of(kind, piece, takers)
        if rest:
            return rest[0][0]
    return None

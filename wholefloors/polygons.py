"""Points and polygons of a kind."""

from wholefloors.checks import check_kind
from wholefloors.errors import InvalidPair, InvalidPoint, InvalidPolygon
from wholefloors.fields import is_number, plus
from wholefloors.planes import (
    area_of, areas_of, common_part, goes_round, hull_of, is_inside, line_through, lines_of, parted, polygon_at, cut_by,
    spot_of)


def is_point(told):
    """True if told is a pair of numbers."""
    return isinstance(told, tuple) and len(told) == 2 and is_number(told[0]) and is_number(told[1])


def check_point(told):
    """Raise InvalidPoint unless told is a point."""
    if not is_point(told):
        raise InvalidPoint(told)


def corners_of(told):
    """The corners of a polygon, unchecked."""
    return tuple([spot_of(point) for point in told])


def is_polygon(kind, told):
    """True if told is a polygon of the kind."""
    check_kind(kind)
    if not isinstance(told, tuple) or len(told) < 3:
        return False
    if not all(is_point(point) for point in told):
        return False
    return goes_round(kind, corners_of(told))


def check_polygon(kind, told):
    """Raise InvalidPolygon unless told is a polygon of the kind."""
    if not is_polygon(kind, told):
        raise InvalidPolygon(told)


def polygon(kind, points):
    """The least polygon that has all of some points inside or on its rim."""
    check_kind(kind)
    if not isinstance(points, (list, tuple)):
        raise InvalidPair(points)
    for point in points:
        check_point(point)
    # A point that is told twice would be a corner twice.
    unlike = list({point: True for point in points})
    corners = hull_of(kind, [spot_of(point) for point in unlike]) if unlike else ()
    if len(corners) < 3:
        raise InvalidPair(points)
    return polygon_at(kind, corners)


def area(kind, polygon):
    """The area of a polygon."""
    check_kind(kind)
    check_polygon(kind, polygon)
    return area_of(kind, corners_of(polygon))


def is_in(kind, polygon, point):
    """True if a polygon has a point: if what is a little to the right of it, and by less above, is inside."""
    check_kind(kind)
    check_polygon(kind, polygon)
    check_point(point)
    return is_inside(kind, lines_of(kind, corners_of(polygon)), spot_of(point))


def moved(kind, polygon, point):
    """A polygon, moved by a point."""
    check_kind(kind)
    check_polygon(kind, polygon)
    check_point(point)
    return tuple([(plus(x, point[0]), plus(y, point[1])) for x, y in polygon])


def cut(kind, polygon, one, other):
    """(left, right): what of a polygon lies to the left and to the right of the line from one point to another."""
    check_kind(kind)
    check_polygon(kind, polygon)
    check_point(one)
    check_point(other)
    if one == other:
        raise InvalidPair((one, other))
    line = line_through(kind, spot_of(one), spot_of(other))
    left, right = cut_by(kind, corners_of(polygon), line)
    return (_told(kind, left), _told(kind, right))


def met(kind, one, other):
    """The polygon of what two polygons have in common, or None if it has no area."""
    check_kind(kind)
    check_polygon(kind, one)
    check_polygon(kind, other)
    lines = lines_of(kind, corners_of(other))
    return _told(kind, common_part(kind, corners_of(one), lines))


def less(kind, one, other):
    """An ascending tuple of polygons whose points are those of the one that the other one has not."""
    check_kind(kind)
    check_polygon(kind, one)
    check_polygon(kind, other)
    lines = lines_of(kind, corners_of(other))
    _, outside = parted(kind, corners_of(one), lines)
    return polygons_at(kind, outside)


def sum_of(kind, polygons):
    """The areas of a list or tuple of polygons, added."""
    check_kind(kind)
    if not isinstance(polygons, (list, tuple)):
        raise InvalidPolygon(polygons)
    for told in polygons:
        check_polygon(kind, told)
    return areas_of(kind, [corners_of(told) for told in polygons])


def polygons_at(kind, pieces):
    """The ascending tuple of the polygons of some corners."""
    return tuple(sorted([polygon_at(kind, corners) for corners in pieces]))


def _told(kind, corners):
    """The polygon of some corners, None of None."""
    if corners is None:
        return None
    return polygon_at(kind, corners)

"""Places and floors."""

from wholefloors.checks import check_kind, is_kind, is_whole
from wholefloors.errors import InvalidBox, InvalidFloor, InvalidPair, InvalidPlace, NotInFloor
from wholefloors.fields import is_number
from wholefloors.planes import area_of, mate_spot, point_at
from wholefloors.polygons import is_polygon, moved
from wholefloors.wholes import lowest, number_order, place_back, place_size, place_sum
from wholefloors.windows import has_mate, place_near, places_in, view_of

# A floor of a window of area 1 has one place in so great an area.
ROOMS = {2: 8, 3: 12, 5: 5}


def is_place(told):
    """True if told is a pair of pairs of integers."""
    return _is_pair(told) and is_whole(told[0]) and is_whole(told[1])


def _is_pair(told):
    return isinstance(told, tuple) and len(told) == 2


def is_floor(told):
    """True if told is a kind and a polygon of this kind."""
    return _is_pair(told) and is_kind(told[0]) and is_polygon(told[0], told[1])


def check_floor(told):
    """Raise InvalidFloor unless told is a floor."""
    if not is_floor(told):
        raise InvalidFloor(told)


def check_floors(one, other):
    """Raise what is due unless one and other are floors of one kind."""
    check_floor(one)
    check_floor(other)
    check_one_kind(one, other)


def check_one_kind(one, other):
    """Raise InvalidPair unless two floors are of one kind."""
    if one[0] != other[0]:
        raise InvalidPair((one, other))


def check_place(told):
    """Raise InvalidPlace unless told is a place."""
    if not is_place(told):
        raise InvalidPlace(told)


def check_places_of(view, some):
    """Raise NotInFloor for the first of some that is no place of a floor, for some itself if it is no tuple."""
    if not isinstance(some, tuple):
        raise NotInFloor(some)
    for place in some:
        if not is_place(place) or not has_mate(view, place):
            raise NotInFloor(place)


def check_box(kind, told):
    """Raise InvalidBox unless told is (left, low, right, high), left at most right, low at most high."""
    if not isinstance(told, tuple) or len(told) != 4 or not all(is_number(side) for side in told):
        raise InvalidBox(told)
    left, low, right, high = told
    if number_order(kind, left, right) > 0 or number_order(kind, low, high) > 0:
        raise InvalidBox(told)


def mate_of(kind, place):
    """The mate of a place, a point."""
    check_place(place)
    check_kind(kind)
    return point_at(mate_spot(kind, place))


def point_of(place):
    """The point of a place."""
    check_place(place)
    (a, b), (c, d) = place
    return ((a, b, 1), (c, d, 1))


def added(one, other):
    """Two places, added."""
    check_place(one)
    check_place(other)
    return place_sum(one, other)


def turned_about(place):
    """A place, each integer times -1."""
    check_place(place)
    return place_back(place)


def has(floor, place):
    """True if a place is one of a floor."""
    check_floor(floor)
    check_place(place)
    return has_mate(view_of(floor), place)


def density(floor):
    """How many places a floor has in an area of 1."""
    check_floor(floor)
    a, b, n = area_of(floor[0], view_of(floor).corners)
    return lowest(a, b, n * ROOMS[floor[0]])


def places(floor, box):
    """The ascending list of the places of a floor in a box (left, low, right, high), both ends too."""
    check_floor(floor)
    check_box(floor[0], box)
    left, low, right, high = box
    return places_in(view_of(floor), (left, right), (low, high))


def moved_floor(floor, place):
    """The floor whose places are those of a floor, each added to a place."""
    check_floor(floor)
    check_place(place)
    kind, window = floor
    return (kind, moved(kind, window, mate_of(kind, place)))


def nearest(floor, place):
    """The least integer within which, in each number, a place of the floor is from a place."""
    check_floor(floor)
    check_place(place)
    found = place_near(view_of(floor), place)
    return place_size(floor[0], place_sum(found, place_back(place)))

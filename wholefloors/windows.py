"""The window of a floor by integers, and the places whose mates are in it."""

from wholefloors.planes import height, is_inside, lines_of, mate_spot, spot_of, takes_rim
from wholefloors.wholes import (
    number_less, number_order, pair_mate, pair_times, place_back, place_size, place_sum, whole_ceiling, whole_floor,
    whole_sign)

# The mates of two pairs that are at most 2 to the power 90 apart are further apart than 1 by 2 to this power, as
# the norm of a pair other than 0 is 1 at least.
FINE = 96


class View:
    """A kind, a polygon's corners and lines, and from where to where its numbers go, both ways."""

    def __init__(self, kind, corners):
        self.kind = kind
        self.corners = corners
        self.lines = lines_of(kind, corners)
        self.across = span_of(kind, [(spot[0], spot[1], spot[4]) for spot in corners])
        self.upward = span_of(kind, [(spot[2], spot[3], spot[4]) for spot in corners])


def view_of(floor):
    """The view of a floor's window, unchecked."""
    kind, window = floor
    return View(kind, tuple([spot_of(point) for point in window]))


def span_of(kind, numbers):
    """(least, greatest) of some numbers."""
    low = high = numbers[0]
    for told in numbers:
        if number_order(kind, told, low) < 0:
            low = told
        if number_order(kind, told, high) > 0:
            high = told
    return (low, high)


def wholes_between(kind, span, mates):
    """The pairs within a span (low, high) whose mates are within another one, ends too, ascending by their mates."""
    least, greatest = _factors_of_w(kind, span, mates)
    found = []
    for b in range(least, greatest + 1):
        # With this b both spans bound a, as the pair less b w, and the pair's mate less b times w's mate.
        back = pair_mate(kind, (0, b))
        first = max(_above(kind, span[0], (0, b)), _above(kind, mates[0], back))
        last = min(_below(kind, span[1], (0, b)), _below(kind, mates[1], back))
        found.extend([_by_mate(kind, (a, b)) for a in range(first, last + 1)])
    return [pair for _, pair in sorted(found)]


def _factors_of_w(kind, span, mates):
    """(least, greatest) of the b of pairs within a span whose mates are within another one."""
    # A pair less its mate is b times the root of 8, 12 or 5; of it 1 by the root is this pair by the integer.
    inverse, n = ((-1, 2), 5) if kind == 5 else ((0, 1), 2 * kind)
    low = number_less(span[0], mates[1])
    high = number_less(span[1], mates[0])
    a, b = pair_times(kind, low[:2], inverse)
    c, d = pair_times(kind, high[:2], inverse)
    return (whole_ceiling(kind, a, b, low[2] * n), whole_floor(kind, c, d, high[2] * n))


def _above(kind, p, back):
    """The least integer that is at least a number less a pair."""
    a, b, n = p
    return whole_ceiling(kind, a - back[0] * n, b - back[1] * n, n)


def _below(kind, p, back):
    """The greatest integer that is at most a number less a pair."""
    a, b, n = p
    return whole_floor(kind, a - back[0] * n, b - back[1] * n, n)


def _by_mate(kind, pair):
    """A pair behind an integer by which its mate is sorted."""
    a, b = pair_mate(kind, pair)
    return (whole_floor(kind, a << FINE, b << FINE, 1), pair)


def has_mate(view, place):
    """True if a place's mate is in the window."""
    return is_inside(view.kind, view.lines, mate_spot(view.kind, place))


def places_in(view, across, upward):
    """The ascending list of the places whose mates are in the window, both numbers within spans."""
    kind = view.kind
    firsts = wholes_between(kind, across, view.across)
    seconds = wholes_between(kind, upward, view.upward)
    mates = [pair_mate(kind, pair) for pair in seconds]
    found = []
    for first in firsts:
        low, high = _inside(kind, view.lines, pair_mate(kind, first), mates)
        found.extend([(first, second) for second in seconds[low:high]])
    return sorted(found)


def _inside(kind, lines, mate, mates):
    """(low, high): with a first number, of ascending second ones those from low to below high give points inside."""
    low, high = 0, len(mates)
    for line in lines:
        across = height(kind, line, (mate[0], mate[1], 0, 0, 1))
        where = whole_sign(kind, line[2], line[3])
        least = 0 if takes_rim(kind, line) else 1
        if where == 0:
            if whole_sign(kind, across[0], across[1]) < least:
                return 0, 0
            continue
        middle = _turn(kind, (across, line[2:4], where, least), mates, (low, high))
        if where > 0:
            low = middle
        else:
            high = middle
    return low, high


def _turn(kind, rim, mates, within):
    """The index within (low, high) at which ascending numbers begin to be to a rim's left, or end to be there."""
    across, factor, where, least = rim
    low, high = within
    while low < high:
        middle = (low + high) // 2
        a, b = pair_times(kind, factor, mates[middle])
        is_left = whole_sign(kind, across[0] + a, across[1] + b) >= least
        if is_left == (where > 0):
            high = middle
        else:
            low = middle + 1
    return low


def about_place(place, radius):
    """(across, upward): the spans of all points that are no further from a place than a radius."""
    (a, b), (c, d) = place
    return (((a - radius, b, 1), (a + radius, b, 1)), ((c - radius, d, 1), (c + radius, d, 1)))


def places_about(view, place, radius):
    """The ascending list of the places of a window that are, less a place, within a radius."""
    across, upward = about_place(place, radius)
    return places_in(view, across, upward)


def place_near(view, place):
    """A place of a window that is as near to a place as any: the least one."""
    radius = 1
    found = places_about(view, place, 1)
    while not found:
        radius = 2 * radius
        found = places_about(view, place, radius)
    back = place_back(place)
    return min([(place_size(view.kind, place_sum(told, back)), told) for told in found])[1]

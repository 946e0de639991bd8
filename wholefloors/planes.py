"""Points, lines and polygons by integers, unchecked.

A spot (a, b, c, d, n) is the point ((a + b w) / n, (c + d w) / n), n from 1 on. A line
(a, b, c, d, e, f) has (a + b w) x + (c + d w) y + (e + f w) above 0 to its left, 0 on itself.
Corners are a tuple of spots, going round with the inside on the left, beginning anywhere.
"""

from math import gcd, lcm
from wholefloors.wholes import lowest, number_sum, pair_mate, pair_norm, pair_times, whole_sign


def spot_of(point):
    """The spot of a point."""
    (a, b, n), (c, d, m) = point
    common = lcm(n, m)
    k, j = common // n, common // m
    return (a * k, b * k, c * j, d * j, common)


def point_at(spot):
    """The point of a spot."""
    a, b, c, d, n = spot
    return (lowest(a, b, n), lowest(c, d, n))


def mate_spot(kind, place):
    """The spot of a place's mate."""
    a, b = pair_mate(kind, place[0])
    c, d = pair_mate(kind, place[1])
    return (a, b, c, d, 1)


def height(kind, line, spot):
    """How far a spot is to the left of a line, times the spot's n, as a pair."""
    return heights_of(kind, line, (spot,))[0]


def heights_of(kind, line, spots):
    """The heights of some spots over a line."""
    # Products of pairs, written out: nothing else is asked so often.
    a, b, c, d, e, f = line
    if kind == 5:
        g, h, i, j = b, d, a + b, c + d
    else:
        g, h, i, j = kind * b, kind * d, a, c
    return [(a * p + g * q + c * s + h * t + e * n, b * p + i * q + d * s + j * t + f * n) for p, q, s, t, n in spots]


def side(kind, line, spot):
    """1, 0 or -1, as a spot is to the left of a line, on it, to the right."""
    a, b = height(kind, line, spot)
    return whole_sign(kind, a, b)


def line_through(kind, one, other):
    """The line from one spot through another one."""
    a, b, c, d, n = one
    e, f, g, h, m = other
    # The line's factors of x and y are the direction's, turned to the left.
    p, q = c * m - g * n, d * m - h * n
    s, t = e * n - a * m, f * n - b * m
    u, v = height(kind, (p, q, s, t, 0, 0), one)
    p, q, s, t = p * n, q * n, s * n, t * n
    common = gcd(p, q, s, t, u, v)
    return (p // common, q // common, s // common, t // common, -u // common, -v // common)


def lines_of(kind, corners):
    """The lines of a polygon's rims."""
    return [line_through(kind, spot, corners[at - len(corners) + 1]) for at, spot in enumerate(corners)]


def moved_lines(kind, lines, back):
    """Lines, moved by minus a spot whose n is 1."""
    found = []
    for line in lines:
        u, v = height(kind, line, back)
        found.append((line[0], line[1], line[2], line[3], u, v))
    return found


def are_left(kind, lines, spots):
    """True if no one of some spots is to the right of a line."""
    for line in lines:
        for a, b in heights_of(kind, line, spots):
            if whole_sign(kind, a, b) < 0:
                return False
    return True


def takes_rim(kind, line):
    """True if what is to the left of a line has the line itself too.

    A point counts where it is, moved a little to the right and by much less upward.
    """
    first = whole_sign(kind, line[0], line[1])
    if first:
        return first > 0
    return whole_sign(kind, line[2], line[3]) > 0


def is_inside(kind, lines, spot):
    """True if a spot is in the polygon whose rims have the lines."""
    for line in lines:
        where = side(kind, line, spot)
        if where < 0 or where == 0 and not takes_rim(kind, line):
            return False
    return True


def order_of(kind, one, other):
    """-1, 0 or 1, as one spot is less than another one, the same, greater."""
    a, b, c, d, n = one
    e, f, g, h, m = other
    first = whole_sign(kind, a * m - e * n, b * m - f * n)
    if first:
        return first
    return whole_sign(kind, c * m - g * n, d * m - h * n)


def crossing(kind, one, low, other, high):
    """The spot between two spots that have the heights low and high, of unlike signs."""
    n, m = one[4], other[4]
    over = (high[0] * n - low[0] * m, high[1] * n - low[1] * m)
    back = pair_mate(kind, over)
    found = []
    for at in (0, 2):
        p = pair_times(kind, high, one[at:at + 2])
        q = pair_times(kind, low, other[at:at + 2])
        a, b = pair_times(kind, (p[0] - q[0], p[1] - q[1]), back)
        found.append(a)
        found.append(b)
    a, b, c, d = found
    n = pair_norm(kind, over)
    common = gcd(a, b, c, d, n)
    if n < 0:
        common = -common
    return (a // common, b // common, c // common, d // common, n // common)


def cut_by(kind, corners, line):
    """What of a polygon is to the left and to the right of a line: corners, or None without an area."""
    heights = heights_of(kind, line, corners)
    sides = [whole_sign(kind, a, b) for a, b in heights]
    if min(sides) >= 0:
        return corners, None
    if max(sides) <= 0:
        return None, corners
    left, right = [], []
    for at, spot in enumerate(corners):
        if sides[at] >= 0:
            left.append(spot)
        if sides[at] <= 0:
            right.append(spot)
        behind = at - len(corners) + 1
        if sides[at] * sides[behind] < 0:
            between = crossing(kind, spot, heights[at], corners[behind], heights[behind])
            left.append(between)
            right.append(between)
    return tuple(left), tuple(right)


def common_part(kind, corners, lines):
    """What of a polygon lies to the left of all of some lines: corners, or None."""
    for line in lines:
        corners, _ = cut_by(kind, corners, line)
        if corners is None:
            return None
    return corners


def parted(kind, corners, lines):
    """(inside, outside): corners or None, and a list of corners, of what lies to the left of all lines or not."""
    outside = []
    inside = corners
    for line in lines:
        inside, beyond = cut_by(kind, inside, line)
        if inside is None:
            return None, [corners]
        if beyond is not None:
            outside.append(beyond)
    return inside, outside


def area_of(kind, corners):
    """The area of a polygon, a number."""
    total = (0, 0, 1)
    for at, one in enumerate(corners):
        other = corners[at - len(corners) + 1]
        a, b = pair_times(kind, one[0:2], other[2:4])
        c, d = pair_times(kind, other[0:2], one[2:4])
        total = number_sum(total, (a - c, b - d, 2 * one[4] * other[4]))
    return total


def areas_of(kind, pieces):
    """The areas of some polygons, added."""
    total = (0, 0, 1)
    for corners in pieces:
        total = number_sum(total, area_of(kind, corners))
    return total


def centre_of(corners):
    """A spot inside a polygon: the middle of its first three corners."""
    common = lcm(corners[0][4], corners[1][4], corners[2][4])
    total = [0, 0, 0, 0]
    for spot in corners[:3]:
        k = common // spot[4]
        total = [total[at] + spot[at] * k for at in range(4)]
    a, b, c, d = total
    return (a, b, c, d, 3 * common)


def least_at(kind, spots):
    """The index of the least of some spots."""
    least = 0
    for at, spot in enumerate(spots):
        if order_of(kind, spot, spots[least]) < 0:
            least = at
    return least


def polygon_at(kind, corners):
    """The polygon of some corners, as a tuple of points."""
    first = least_at(kind, corners)
    return tuple([point_at(spot) for spot in corners[first:] + corners[:first]])


def goes_round(kind, corners):
    """True if some corners, three or more, make a polygon that begins with the least one."""
    first = corners[0]
    for spot in corners[1:]:
        if order_of(kind, first, spot) >= 0:
            return False
    # What turns to the left around the least corner all the time goes round just once.
    for at in range(2, len(corners)):
        if side(kind, line_through(kind, first, corners[at - 1]), corners[at]) <= 0:
            return False
    for at, spot in enumerate(corners):
        if side(kind, line_through(kind, corners[at - 2], corners[at - 1]), spot) <= 0:
            return False
    return True


def hull_of(kind, spots):
    """The outermost of some unlike spots, going round from the least one; fewer than three if all are in one line."""
    first = spots[least_at(kind, spots)]
    corners = [first]
    while True:
        following = _outermost_behind(kind, corners[-1], spots)
        if following == first:
            return tuple(corners)
        corners.append(following)


def _outermost_behind(kind, corner, spots):
    """The farthest spot to the right of whose line from a corner there is none; the corner if it is alone."""
    best = corner
    for spot in spots:
        if spot == corner:
            continue
        if best == corner:
            best = spot
            continue
        where = side(kind, line_through(kind, corner, best), spot)
        # In one line with both, the spot is the farther one if it lies behind the best as that behind the corner.
        farther = order_of(kind, best, spot) == order_of(kind, corner, best)
        if where < 0 or where == 0 and farther:
            best = spot
    return best

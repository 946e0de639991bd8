"""What the tests share: values, a second way to work things out, and ways to call."""

import inspect
import random
from fractions import Fraction
from math import isqrt

from wholefloors.fields import number
from wholefloors.polygons import polygon

KINDS = (2, 3, 5)
HERE = ((0, 0), (0, 0))
HUGE = 10 ** 120

# What is no integer, number, point, place, polygon, floor, saying or patch, whatever is asked for.
NONSENSE = [None, True, "text", b"bytes", 1.5, [], {}, (None,), ((),), [[0, 0], [0, 0]], ((0, 0, 1), None), object()]


def at(x, y):
    return ((x, 0, 1), (y, 0, 1))


def box_of(left, low, right, high):
    return ((left, 0, 1), (low, 0, 1), (right, 0, 1), (high, 0, 1))


SQUARE = polygon(2, [at(0, 0), at(1, 0), at(1, 1), at(0, 1)])
FLOOR = (2, SQUARE)
BIG = (2, polygon(2, [at(0, 0), at(2, 0), at(2, 2), at(0, 2)]))
# Windows of three to six corners, of all kinds, with irrational corners too.
FLOORS = [
    FLOOR,
    BIG,
    (2, polygon(2, [((0, 0, 1), (0, 0, 1)), ((0, 1, 1), (0, 0, 1)), ((1, 0, 2), (2, 0, 1))])),
    (3, polygon(3, [at(-1, -1), ((0, 1, 1), (-1, 0, 1)), ((1, 0, 1), (1, 0, 1)), ((-1, 0, 2), (3, 0, 2))])),
    (3, polygon(3, [at(0, 0), at(1, 0), at(2, 1), at(2, 2), at(1, 2), at(0, 1)])),
    (5, polygon(5, [at(0, 0), ((0, 1, 1), (0, 0, 1)), ((1, 1, 2), (0, 1, 1)), at(0, 1)])),
    (5, polygon(5, [at(-1, 0), at(0, -1), at(1, -1), ((0, 1, 1), (1, 0, 2)), at(0, 1)])),
    (5, polygon(5, [at(0, 0), at(1, 1), at(0, 1)])),
]


def root_of_square(kind):
    """The root of 2, 3 or 5, very nearly."""
    return Fraction(isqrt(kind * HUGE * HUGE), HUGE)


OMEGAS = {2: root_of_square(2), 3: root_of_square(3), 5: (1 + root_of_square(5)) / 2}


def real(kind, p):
    """A number, very nearly, as a fraction."""
    a, b, n = p
    return (a + b * OMEGAS[kind]) / n


def real_point(kind, point):
    return (real(kind, point[0]), real(kind, point[1]))


def mate_of_pair(kind, pair):
    """The mate of a + b w, very nearly."""
    a, b = pair
    return a + b * ((1 if kind == 5 else 0) - OMEGAS[kind])


def is_within(kind, told, point):
    """By [5], word for word: inside, moved a little to the right and by much less upward."""
    tiny = Fraction(1, 10 ** 30)
    x, y = point
    return is_inner(kind, told, (x + tiny, y + tiny * tiny))


def is_inner(kind, told, point):
    corners = [real_point(kind, corner) for corner in told]
    x, y = point
    for k, (a, b) in enumerate(corners):
        c, d = corners[(k + 1) % len(corners)]
        if (c - a) * (y - b) - (d - b) * (x - a) <= 0:
            return False
    return True


def has_by_hand(floor, place):
    kind, window = floor
    return is_within(kind, window, (mate_of_pair(kind, place[0]), mate_of_pair(kind, place[1])))


def pairs_by_hand(kind, low, high, mate_low, mate_high):
    """All (a, b) between two bounds, with mates between two others."""
    found = []
    apart = OMEGAS[kind] - mate_of_pair(kind, (0, 1))
    for b in range(int((low - mate_high) / apart) - 2, int((high - mate_low) / apart) + 3):
        first = max(low - b * OMEGAS[kind], mate_low - mate_of_pair(kind, (0, b)))
        for a in range(int(first) - 2, int(first + min(high - low, mate_high - mate_low)) + 3):
            if low <= a + b * OMEGAS[kind] <= high and mate_low <= mate_of_pair(kind, (a, b)) <= mate_high:
                found.append((a, b))
    return found


def places_by_hand(floor, left, low, right, high):
    """The ascending list of the places of a floor between bounds, from the definition."""
    kind, window = floor
    corners = [real_point(kind, corner) for corner in window]
    across, upward = [x for x, _ in corners], [y for _, y in corners]
    firsts = pairs_by_hand(kind, left, right, min(across), max(across))
    seconds = pairs_by_hand(kind, low, high, min(upward), max(upward))
    return sorted((x, y) for x in firsts for y in seconds if has_by_hand(floor, (x, y)))


def size_by_hand(kind, place):
    """The greatest absolute value of a place's numbers."""
    return max(abs(a + b * OMEGAS[kind]) for a, b in place)


def less_places(one, other):
    return tuple((a - c, b - d) for (a, b), (c, d) in zip(one, other))


def patch_by_hand(kind, places, place, r):
    """The patch of a place, of all places of a floor far enough around it."""
    steps = [less_places(told, place) for told in places if told != place]
    return tuple(sorted(step for step in steps if size_by_hand(kind, step) <= r))


def random_number(source, kind, most=3):
    """A number between -most and most."""
    while True:
        p = number(source.randint(-6, 6), source.randint(-6, 6), source.randint(1, 4))
        if abs(real(kind, p)) <= most:
            return p


def random_point(source, kind, most=3):
    return (random_number(source, kind, most), random_number(source, kind, most))


def random_polygon(source, kind, most=3):
    while True:
        points = [random_point(source, kind, most) for _ in range(source.randint(3, 7))]
        try:
            return polygon(kind, points)
        except ValueError:
            continue


def new_source(seed):
    return random.Random(seed)


def is_deep_tuple(told):
    """True if all in told is tuples of plain integers, tuples and strings, or None."""
    if type(told) is tuple:
        return all(is_deep_tuple(part) for part in told)
    return told is None or type(told) in (int, str)


class Ways:
    """Checks that a test case has beside its own."""

    def same_by_name(self, function, *values):
        """The value of a call by position, which is that by name, with the names in the function's head."""
        names = list(inspect.signature(function).parameters)
        self.assertEqual(len(names), len(values))
        by_position = function(*values)
        by_name = function(**dict(zip(names, values)))
        self.assertEqual(by_position, by_name)
        self.assertEqual(type(by_position), type(by_name))
        return by_position

    def named(self, function, *names):
        self.assertEqual(tuple(inspect.signature(function).parameters), names)

    def refused(self, error, value, function, *values):
        """A call raises just this error with just this value."""
        with self.assertRaises(ValueError) as caught:
            function(*values)
        self.assertIs(type(caught.exception), error, caught.exception)
        self.assertEqual(type(caught.exception.value), type(value))
        self.assertEqual(caught.exception.value, value)

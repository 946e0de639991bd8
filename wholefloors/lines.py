"""The rims of windows, and by which of them one floor tells another one."""

from wholefloors.checks import is_integer
from wholefloors.errors import InvalidNumber
from wholefloors.floors import check_floor, check_floors
from wholefloors.quotients import Common, ZERO
from wholefloors.wholes import pair_less, pair_mate, pair_times
from wholefloors.windows import view_of


def check_rim(floor, told):
    """Raise InvalidNumber unless told is the index of a rim of a floor's window."""
    if not is_integer(told) or not 0 <= told < len(floor[1]):
        raise InvalidNumber(told)


def rim(floor, i):
    """The ends of a rim of a floor's window."""
    check_floor(floor)
    check_rim(floor, i)
    window = floor[1]
    return (window[i], window[i - len(window) + 1])


def moved_onto(one, i, other, j):
    """A place by whose mate a rim of the one is moved onto the line of a rim of the other one, or None."""
    check_floors(one, other)
    check_rim(one, i)
    check_rim(other, j)
    return _place_onto(one[0], view_of(one).lines[i], view_of(other).lines[j])


def tellable(one, other):
    """("told", pairs) of a rim of the one and a place for each rim of the other one, or ("never", rim)."""
    check_floors(one, other)
    kind = one[0]
    lines = view_of(one).lines
    pairs = []
    for j, goal in enumerate(view_of(other).lines):
        pair = _first_onto(kind, lines, goal)
        if pair is None:
            return ("never", j)
        pairs.append(pair)
    return ("told", tuple(pairs))


def _first_onto(kind, lines, goal):
    """The first index of a line that a place's mate moves onto another one, and such a place, or None."""
    for i, line in enumerate(lines):
        place = _place_onto(kind, line, goal)
        if place is not None:
            return (i, place)
    return None


def _place_onto(kind, line, goal):
    """A place whose mate moves a line onto another one, or None."""
    x, y, height = line[0:2], line[2:4], line[4:6]
    across, upward, above = goal[0:2], goal[2:4], goal[4:6]
    if pair_times(kind, x, upward) != pair_times(kind, y, across):
        return None
    # Of two factors that belong together neither is 0: by them both lines are told with the same factors of x and y.
    own, its = (y, upward) if x == ZERO else (x, across)
    far = pair_less(pair_times(kind, its, height), pair_times(kind, own, above))
    mates = Common(kind, pair_times(kind, own, across), pair_times(kind, own, upward)).solution(far)
    if mates is None:
        return None
    return (pair_mate(kind, mates[0]), pair_mate(kind, mates[1]))

"""Rims that the mates of places move onto lines, by integers alone, unchecked.

All p times x and q times y, added, with whole x and y, are what p, p w, q, q w make, each times an
integer: what pairs of integers make so is seen as soon as they are brought into steps.
"""

from math import gcd
from wholefloors.planes import line_through, mate_spot, side
from wholefloors.wholes import pair_less, pair_times

W = (0, 1)


def is_moved_by(kind, rim, place, goal):
    """True if a rim, moved by the mate of a place, lies on the line of another one."""
    a, b, c, d, _ = mate_spot(kind, place)
    one, other = [(p + a * n, q + b * n, s + c * n, t + d * n, n) for p, q, s, t, n in rim]
    line = line_through(kind, one, other)
    return side(kind, line, goal[0]) == 0 and side(kind, line, goal[1]) == 0


def can_be_moved(kind, rim, goal):
    """True if the mate of a place moves a rim onto the line of another one."""
    (x, y), n = _between(rim[0], goal[0]), rim[0][4] * goal[0][4]
    across, upward = _between(goal[0], goal[1])
    if _crossed(kind, _between(rim[0], rim[1]), (across, upward)) != (0, 0):
        return False
    # A move (s, t) does it if s times upward, less t times across, is x times upward, less y times across, by n.
    # Not both p and q are 0, and no integer times p is p w, unless p is 0: so what is made has steps both ways.
    p, q = (upward[0] * n, upward[1] * n), (across[0] * n, across[1] * n)
    steps = _steps_of([p, pair_times(kind, p, W), q, pair_times(kind, q, W)])
    return _is_made(steps, _crossed(kind, (x, y), (across, upward)))


def _between(one, other):
    """What is from one spot to another one, times the n of both: two pairs."""
    n, m = one[4], other[4]
    a, b, c, d = [other[at] * n - one[at] * m for at in range(4)]
    return ((a, b), (c, d))


def _crossed(kind, one, other):
    """The first of one times the second of another one, less its second times the other's first."""
    return pair_less(pair_times(kind, one[0], other[1]), pair_times(kind, one[1], other[0]))


def _steps_of(pairs):
    """(a, b, d): what some pairs make, each times an integer, is what (a, b) and (0, d) make."""
    a, b, d = 0, 0, 0
    for s, t in pairs:
        while s:
            times = a // s
            a, b, s, t = s, t, a - times * s, b - times * t
        d = gcd(d, t)
    return (a, b, d)


def _is_made(steps, pair):
    """True if a pair is made by (a, b) and (0, d), each times an integer, a and d not being 0."""
    a, b, d = steps
    s, t = pair
    times = s // a
    left = t - times * b
    return times * a == s and left // d * d == left

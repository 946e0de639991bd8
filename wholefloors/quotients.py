"""Division of pairs with a rest, and what comes of it, unchecked."""

from wholefloors.wholes import pair_less, pair_mate, pair_norm, pair_sum, pair_times

ZERO = (0, 0)
ONE = (1, 0)

# The units whose powers are all units, but for their signs, and what undoes them.
STEPS = {2: ((1, 1), (-1, 1)), 3: ((2, 1), (2, -1)), 5: ((0, 1), (-1, 1))}


def quotient_of(kind, p, q):
    """A quotient by which the norm of the rest is of a lesser absolute value than that of q, which is not 0."""
    a, b = pair_times(kind, p, pair_mate(kind, q))
    n = pair_norm(kind, q)
    # Both integers at most a half off: then the norm of what is left over is at most 3 by 4 in all kinds.
    return ((2 * a + n) // (2 * n), (2 * b + n) // (2 * n))


def rest_by(kind, p, q, quotient):
    """What is left of p if a quotient times q is taken from it."""
    return pair_less(p, pair_times(kind, quotient, q))


def exact_by(kind, p, q):
    """The pair that times q is p, or None; 0 by 0 is 0."""
    if q == ZERO:
        return ZERO if p == ZERO else None
    quotient = quotient_of(kind, p, q)
    return quotient if rest_by(kind, p, q, quotient) == ZERO else None


class Common:
    """A common divisor of two pairs that is p times x and q times y, added, and the least change of both.

    The change (s, t) is such that p times s and q times t, added, is 0; all (x, y) that give the same
    sum differ by it, times whole numbers.
    """

    def __init__(self, kind, p, q):
        self.kind = kind
        self.change = (ZERO, ONE)
        self.factors = (ONE, ZERO)
        self.divisor = p
        rest = q
        while rest != ZERO:
            quotient = quotient_of(kind, self.divisor, rest)
            self.divisor, rest = rest, rest_by(kind, self.divisor, rest, quotient)
            self.factors, self.change = self.change, self._less(self.factors, self.change, quotient)
        self.change = _smallest(kind, self.change)

    def _less(self, both, other, quotient):
        """Two pairs, less two others times a quotient."""
        return (rest_by(self.kind, both[0], other[0], quotient), rest_by(self.kind, both[1], other[1], quotient))

    def solution(self, c):
        """(x, y) with small integers by which p times x and q times y, added, is c, or None."""
        times = exact_by(self.kind, c, self.divisor)
        if times is None:
            return None
        both = (pair_times(self.kind, self.factors[0], times), pair_times(self.kind, self.factors[1], times))
        # Of what all numbers of the kind make of the change, the foot of the perpendicular is the nearest to both.
        foot = _crossed(self.kind, both, self.change)
        square = _crossed(self.kind, self.change, self.change)
        return self._less(both, self.change, quotient_of(self.kind, foot, square))


def _crossed(kind, one, other):
    """The products of two pairs' firsts and seconds, added."""
    return pair_sum(pair_times(kind, one[0], other[0]), pair_times(kind, one[1], other[1]))


def _smallest(kind, both):
    """Two pairs times the unit by which their integers are small."""
    for step in STEPS[kind]:
        size = _squares(kind, both)
        while True:
            other = (pair_times(kind, both[0], step), pair_times(kind, both[1], step))
            wide = _squares(kind, other)
            if wide >= size:
                break
            both, size = other, wide
    return both


def _squares(kind, both):
    """The squares of two pairs and of their mates, added."""
    square = _crossed(kind, both, both)
    return pair_sum(square, pair_mate(kind, square))[0]

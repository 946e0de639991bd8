"""How one floor tells another one, by the parts of the one's patches in both windows, unchecked."""

from wholefloors.cells import all_parts
from wholefloors.covers import Cover, distance_of
from wholefloors.pieces import box_around, boxes_meet, moved_takers, pieces_of, split_by
from wholefloors.planes import are_left, mate_spot
from wholefloors.wholes import number_less
from wholefloors.windows import view_of, wholes_between


def spread_of(one, other):
    """The least integer within which of each place of the other floor there is one of the one."""
    view = view_of(one)
    return distance_of(Cover(view_of(other), [view.corners]))


class Telling:
    """Two floors' windows, and for each step by which a place of the one can come to one of the other one a taker.

    The taker is the other one's window, moved by minus the mate of the step: a place of the one with its
    mate in it, and the step, added, is a place of the other one.
    """

    def __init__(self, one, other):
        self.view = view_of(one)
        self.goal = view_of(other)
        self.kind = self.view.kind
        steps = self._steps(spread_of(one, other))
        taker = (self.goal.lines, box_around(self.kind, self.goal.corners))
        self.takers = [(step, moved_takers(self.kind, [taker], mate_spot(self.kind, step))[0]) for step in steps]

    def _steps(self, far):
        """The ascending list of the places within the spread by whose mates the one's window is moved to the other."""
        span = ((-far, 0, 1), (far, 0, 1))
        firsts = wholes_between(self.kind, span, _between(self.view.across, self.goal.across))
        seconds = wholes_between(self.kind, span, _between(self.view.upward, self.goal.upward))
        return sorted([(x, y) for x in firsts for y in seconds])

    def parts_to(self, radius):
        """The ascending list of (patch, part) of the one to a radius, a part being pieces."""
        parts = all_parts(self.view, radius)
        return [(patch, pieces_of(self.kind, parts[patch])) for patch in sorted(parts)]

    def is_there(self, part, taker):
        """True if a taker has a whole part, False if it has no point of it, None if it has some and others not."""
        found = None
        for piece in part:
            inside, outside = self.sides(piece, taker)
            if inside and outside or found is not None and found != bool(inside):
                return None
            found = bool(inside)
        return found

    def sides(self, piece, taker):
        """(inside, outside): lists of the corners of what of a piece a taker has and has not."""
        corners, box = piece
        if not boxes_meet(box, taker[1]):
            return [], [corners]
        if are_left(self.kind, taker[0], corners):
            return [corners], []
        inside, outside = split_by(self.kind, [piece], [taker])
        return inside, [beyond for beyond, _ in outside]

    def rule(self, radius):
        """The telling rule to a radius, or None."""
        found = []
        for patch, part in self.parts_to(radius):
            steps = []
            for step, taker in self.takers:
                there = self.is_there(part, taker)
                if there is None:
                    return None
                if there:
                    steps.append(step)
            found.append((patch, tuple(steps)))
        return tuple(found)

    def parting(self, radius):
        """(inside, outside, step): corners of what of one patch's part is taken to the other one's window, or None."""
        for _, part in self.parts_to(radius):
            for step, taker in self.takers:
                if self.is_there(part, taker) is None:
                    both = [self.sides(piece, taker) for piece in part]
                    inside = [corners for within, _ in both for corners in within]
                    return inside, [corners for _, beyond in both for corners in beyond], step
        return None


def _between(span, goal):
    """The span of the numbers by which a number of one span is moved to one of another span."""
    return (number_less(goal[0], span[1]), number_less(goal[1], span[0]))

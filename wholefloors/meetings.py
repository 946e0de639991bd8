"""How one floor tells another one, by corners and rims, without any cut of patches, unchecked."""

from wholefloors.cells import all_parts
from wholefloors.pieces import box_around, moved_takers, rest_of
from wholefloors.planes import are_left, heights_of, mate_spot, moved_lines
from wholefloors.wholes import number_less, place_back, place_size, whole_sign
from wholefloors.windows import View, view_of, wholes_between


class Meeting:
    """The windows of two floors, and the boxes around them."""

    def __init__(self, one, other):
        self.kind = one[0]
        self.own = view_of(one)
        self.goal = view_of(other)
        self.own_box = box_around(self.kind, self.own.corners)
        self.goal_box = box_around(self.kind, self.goal.corners)

    def is_near(self, far):
        """True if of each place of the other floor there is one of the one within a distance."""
        own = [(self.own.lines, self.own_box)]
        takers = []
        for step in self.steps_within(far):
            takers.extend(moved_takers(self.kind, own, mate_spot(self.kind, place_back(step))))
        return not rest_of(self.kind, (self.goal.corners, self.goal_box), takers)

    def spread(self):
        """The least distance within which of each place of the other floor there is one of the one."""
        far = 0
        while not self.is_near(far):
            far += 1
        return far

    def is_in_spread(self, place):
        """True if a place has no number of a greater absolute value than the spread."""
        for far in range(place_size(self.kind, place)):
            if self.is_near(far):
                return False
        return True

    def steps_within(self, far):
        """The ascending list of the places within a distance by which the one's places may come to the other's."""
        span = ((-far, 0, 1), (far, 0, 1))
        own, goal = self.own, self.goal
        across = (number_less(goal.across[0], own.across[1]), number_less(goal.across[1], own.across[0]))
        upward = (number_less(goal.upward[0], own.upward[1]), number_less(goal.upward[1], own.upward[0]))
        seconds = wholes_between(self.kind, span, upward)
        return sorted([(x, y) for x in wholes_between(self.kind, span, across) for y in seconds])

    def is_rule(self, radius, told):
        """True if a tuple of pairs of tuples of places is the telling rule to a radius."""
        parts = all_parts(self.own, radius)
        if [patch for patch, _ in told] != sorted(parts):
            return False
        steps = self.steps_within(self.spread())
        for patch, right in told:
            wanted = {step: True for step in right}
            pieces = [View(self.kind, corners) for corners in parts[patch]]
            if [step for step in steps if step in wanted] != list(right):
                return False
            for step in steps:
                if not self._are_so(pieces, step, step in wanted):
                    return False
        return True

    def _are_so(self, pieces, step, wanted):
        """True if all pieces, moved by the mate of a place, lie in the goal, or if it is wanted so, apart from it."""
        lines = moved_lines(self.kind, self.goal.lines, mate_spot(self.kind, step))
        for piece in pieces:
            if wanted and not are_left(self.kind, lines, piece.corners):
                return False
            if not wanted and not self._is_apart(piece, step, lines):
                return False
        return True

    def _is_apart(self, piece, step, lines):
        """True if a rim of a piece, moved, or of the goal has the other one to its right."""
        if _are_beyond(self.kind, lines, piece.corners):
            return True
        moved = moved_lines(self.kind, piece.lines, mate_spot(self.kind, place_back(step)))
        return _are_beyond(self.kind, moved, self.goal.corners)


def _are_beyond(kind, lines, spots):
    """True if no one of some spots is to the left of one of some lines, the same one for all."""
    for line in lines:
        if max([whole_sign(kind, a, b) for a, b in heights_of(kind, line, spots)]) <= 0:
            return True
    return False

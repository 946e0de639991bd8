"""The members of a row, and behind which of them which gaps come, unchecked.

A stretch (start, end) has the numbers from start on and below end. The members of a row, times a
unit, are those of the row, times the unit's mate: so each row is brought to a length from 1 on and
below the stretch unit, where what is looked for is near, however short or long the row is.
"""

from wholefloors.fields import STRETCH_UNITS
from wholefloors.wholes import (
    lowest, number_less, number_order, number_sum, pair_less, pair_mate, pair_sum, pair_times, whole_floor, whole_sign)
from wholefloors.windows import wholes_between

# Members of a row of a length below 6 are more than 1 by 6 apart: in steps of 1 by 2 to this power they are told apart.
FINE = 3


def number_times(kind, p, pair):
    """A number times a pair."""
    a, b = pair_times(kind, p[:2], pair)
    return lowest(a, b, p[2])


def stretch_times(kind, stretch, pair):
    """A stretch times a pair above 0."""
    return (number_times(kind, stretch[0], pair), number_times(kind, stretch[1], pair))


def length_of(stretch):
    """The length of a stretch."""
    return number_less(stretch[1], stretch[0])


def scale_of(kind, length):
    """The power of the stretch unit that, times a length, is from 1 on and below the stretch unit."""
    unit = STRETCH_UNITS[kind][:2]
    back = pair_mate(kind, unit)
    scale = (1, 0)
    while number_order(kind, length, (1, 0, 1)) < 0:
        scale = pair_times(kind, scale, unit)
        length = number_times(kind, length, unit)
    while number_order(kind, length, STRETCH_UNITS[kind]) >= 0:
        scale = pair_times(kind, scale, back)
        length = number_times(kind, length, back)
    return scale


def members_between(kind, stretch, span):
    """The ascending list of the pairs within a span (low, high), both ends too, whose mates are in a stretch."""
    scale = scale_of(kind, length_of(stretch))
    mates = stretch_times(kind, stretch, scale)
    # The unit's mate is 1 by the unit.
    near = stretch_times(kind, span, pair_mate(kind, scale))
    found = []
    for pair in wholes_between(kind, near, mates):
        if number_order(kind, mate_number(kind, pair), mates[1]) < 0:
            found.append((whole_floor(kind, pair[0] << FINE, pair[1] << FINE, 1), pair))
    return [pair_times(kind, pair, scale) for _, pair in sorted(found)]


def mate_number(kind, pair):
    """The mate of a pair, a number."""
    a, b = pair_mate(kind, pair)
    return (a, b, 1)


def is_mate_in(kind, pair, stretch):
    """True if a pair's mate is in a stretch."""
    told = mate_number(kind, pair)
    return number_order(kind, stretch[0], told) <= 0 and number_order(kind, told, stretch[1]) < 0


def member_from(kind, stretch, start):
    """The least pair from a number on whose mate is in a stretch."""
    # No gap of a row of such a length is greater than twice the stretch unit.
    a, b, n = number_times(kind, STRETCH_UNITS[kind], scale_of(kind, length_of(stretch)))
    return members_between(kind, stretch, (start, number_sum(start, (2 * a, 2 * b, n))))[0]


def steps_of(kind, length):
    """(right, left): the least pairs above 0 whose mates are above 0, or below it, by less than a length."""
    a, b, n = number_times(kind, STRETCH_UNITS[kind], scale_of(kind, length))
    # In the row from 0 on they are what is next to 0; the stretch unit, or one below it, is such a pair.
    around = members_between(kind, ((0, 0, 1), length), ((-a, -b, n), (a, b, n)))
    at = around.index((0, 0))
    return around[at + 1], pair_less((0, 0), around[at - 1])


def beyond(stretch, pair):
    """A stretch, moved by a pair."""
    a, b = pair
    return (number_sum(stretch[0], (a, b, 1)), number_sum(stretch[1], (a, b, 1)))


def common_stretch(kind, one, other):
    """What two stretches have in common, or None."""
    start = one[0] if number_order(kind, one[0], other[0]) > 0 else other[0]
    end = one[1] if number_order(kind, one[1], other[1]) < 0 else other[1]
    return (start, end) if number_order(kind, start, end) < 0 else None


class Spacing:
    """A row's kind and stretch, its gaps, ascending, and for each the stretch of the mates behind which it comes."""

    def __init__(self, row):
        kind, low, high = row
        self.kind = kind
        self.stretch = (low, high)
        self.length = number_less(high, low)
        right, left = steps_of(kind, self.length)
        # Below the one number the gap to the right fits in, from the other one on that to the left.
        last = number_less(high, mate_number(kind, right))
        first = number_less(low, mate_number(kind, left))
        found = [(right, (low, last)), (left, (first, high))]
        if whole_sign(kind, right[0] - left[0], right[1] - left[1]) > 0:
            found.reverse()
        if number_order(kind, last, first) < 0:
            # Where neither fits in, both do, one behind the other.
            found.append((pair_sum(right, left), (last, first)))
        self.gaps = [gap for gap, _ in found]
        self.parts = [part for _, part in found]

    def index_behind(self, member):
        """The index of the gap behind a member."""
        return [at for at, part in enumerate(self.parts) if is_mate_in(self.kind, member, part)][0]

    def next_of(self, member):
        """The member behind a member."""
        return pair_sum(member, self.gaps[self.index_behind(member)])

    def last_of(self, member):
        """The member ahead of a member."""
        found = [(pair_less(member, gap), part) for gap, part in zip(self.gaps, self.parts)]
        return [pair for pair, part in found if is_mate_in(self.kind, pair, part)][0]

    def word_from(self, member, n):
        """The word of n gaps from a member on."""
        word = []
        for _ in range(n):
            at = self.index_behind(member)
            word.append(at)
            member = pair_sum(member, self.gaps[at])
        return tuple(word)

    def _part_behind(self, at, total):
        """The stretch of the mates of members from which, behind a total of gaps, the gap of an index comes."""
        return beyond(self.parts[at], pair_mate(self.kind, pair_less((0, 0), total)))

    def part_of(self, word):
        """The stretch of the mates of the members from which a word comes, or None."""
        stretch = self.stretch
        total = (0, 0)
        for at in word:
            stretch = common_stretch(self.kind, stretch, self._part_behind(at, total))
            if stretch is None:
                return None
            total = pair_sum(total, self.gaps[at])
        return stretch

    def longer(self, told):
        """Of (word, total, stretch), the total being that of the word's gaps, all such with one gap more."""
        word, total, stretch = told
        found = []
        for at, gap in enumerate(self.gaps):
            common = common_stretch(self.kind, stretch, self._part_behind(at, total))
            if common is not None:
                found.append((word + (at,), pair_sum(total, gap), common))
        return found

    def all_words(self, n):
        """The list of (word, stretch) of all words of n gaps."""
        found = [((), (0, 0), self.stretch)]
        for _ in range(n):
            found = [behind for told in found for behind in self.longer(told)]
        return [(word, stretch) for word, _, stretch in found]

    def fillings_of(self, at, unit):
        """The ascending tuple of the fillings of the gap of an index by a unit by which the row lies within itself."""
        goal = pair_times(self.kind, unit, self.gaps[at])
        waiting = [((), (0, 0), stretch_times(self.kind, self.parts[at], pair_mate(self.kind, unit)))]
        found = []
        while waiting:
            told = waiting.pop()
            if told[1] == goal:
                found.append(told[0])
            else:
                waiting.extend(self.longer(told))
        return tuple(sorted(found))

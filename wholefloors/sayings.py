"""What is said of a place by what is near it."""

from wholefloors.checks import check_kind, is_integer
from wholefloors.errors import InvalidSaying, NotInFloor
from wholefloors.floors import check_box, check_floor, check_place, is_place
from wholefloors.wholes import place_size, place_sum
from wholefloors.windows import has_mate, places_about, places_in, view_of

# What stands behind the word of a saying: places, integers from 0 on, sayings.
FORMS = {
    "all": (),
    "has": ("place",),
    "step": ("place", "saying"),
    "not": ("saying",),
    "both": ("saying", "saying"),
    "either": ("saying", "saying"),
    "some": ("integer", "saying"),
    "many": ("integer", "integer", "saying"),
}


def is_saying(told):
    """True if told is a saying."""
    waiting = [told]
    while waiting:
        saying = waiting.pop()
        if not _is_formed(saying):
            return False
        waiting.extend(inner_of(saying))
    return True


def _is_formed(told):
    """True if told is a saying but for what is wrong in the sayings in it."""
    if not isinstance(told, tuple) or not told or not isinstance(told[0], str) or told[0] not in FORMS:
        return False
    form = FORMS[told[0]]
    if len(told) != len(form) + 1:
        return False
    for what, part in zip(form, told[1:]):
        if what == "place" and not is_place(part):
            return False
        if what == "integer" and not (is_integer(part) and part >= 0):
            return False
    return True


def inner_of(saying):
    """The list of the sayings in a saying, without those in them."""
    return [part for what, part in zip(FORMS[saying[0]], saying[1:]) if what == "saying"]


def check_saying(told):
    """Raise InvalidSaying unless told is a saying."""
    if not is_saying(told):
        raise InvalidSaying(told)


def reach(kind, saying):
    """The radius, by a saying's words, of the patches on which it hangs whether the saying is true."""
    check_kind(kind)
    check_saying(saying)
    return reach_of(kind, saying)


def reach_of(kind, saying):
    """The reach of a saying, unchecked."""
    farthest = max([reach_of(kind, inner) for inner in inner_of(saying)], default=0)
    if saying[0] in ("has", "step"):
        return place_size(kind, saying[1]) + farthest
    if saying[0] in ("some", "many"):
        return saying[1] + farthest
    return farthest


class Truths:
    """A saying and those in it, by indexes, and of which places of a window they are known to be true or not."""

    def __init__(self, view, saying):
        self.view = view
        self.sayings = [saying]
        self.within = []
        self.known = {}
        while len(self.within) < len(self.sayings):
            inner = inner_of(self.sayings[len(self.within)])
            self.within.append(list(range(len(self.sayings), len(self.sayings) + len(inner))))
            self.sayings.extend(inner)

    def is_true(self, at, place):
        """True if the saying of an index is true of a place of the window."""
        # The same place is asked about again and again, by other ways.
        key = (at, place)
        if key not in self.known:
            self.known[key] = self._worked_out(at, place)
        return self.known[key]

    def _worked_out(self, at, place):
        saying = self.sayings[at]
        word = saying[0]
        within = self.within[at]
        if word == "all":
            return True
        if word == "has":
            return has_mate(self.view, place_sum(place, saying[1]))
        if word == "step":
            there = place_sum(place, saying[1])
            return has_mate(self.view, there) and self.is_true(within[0], there)
        if word == "not":
            return not self.is_true(within[0], place)
        if word == "both":
            return self.is_true(within[0], place) and self.is_true(within[1], place)
        if word == "either":
            return self.is_true(within[0], place) or self.is_true(within[1], place)
        least = saying[2] if word == "many" else 1
        return self._is_true_of(within[0], places_about(self.view, place, saying[1]), least)

    def _is_true_of(self, at, places, least):
        """True if the saying of an index is true of so many of some places at least."""
        count = 0
        for place in places:
            if count >= least:
                break
            if self.is_true(at, place):
                count += 1
        return count >= least


def holds(floor, saying, place):
    """True if a saying is true of a place of a floor."""
    check_floor(floor)
    check_saying(saying)
    check_place(place)
    view = view_of(floor)
    if not has_mate(view, place):
        raise NotInFloor(place)
    return Truths(view, saying).is_true(0, place)


def true_places(floor, saying, box):
    """The ascending list of the places of a floor in a box of which a saying is true."""
    check_floor(floor)
    check_saying(saying)
    check_box(floor[0], box)
    view = view_of(floor)
    left, low, right, high = box
    truths = Truths(view, saying)
    return [place for place in places_in(view, (left, right), (low, high)) if truths.is_true(0, place)]

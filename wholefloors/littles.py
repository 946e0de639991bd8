"""What is true of a place by its patch alone, the patch being taken as a little floor, unchecked."""

from wholefloors.cells import HERE, all_parts, near_places
from wholefloors.patches import patch_at
from wholefloors.sayings import reach_of
from wholefloors.wholes import place_sum


class Littles:
    """A window and a saying, of whose places it is asked by their patches to the saying's reach."""

    def __init__(self, view, saying):
        self.view = view
        self.saying = saying
        self.reach = reach_of(view.kind, saying)
        self.steps = {}

    def is_true_of(self, place):
        """True if the saying is true of a place of the floor."""
        return self._is_true_at(patch_at(self.view, place, self.reach))

    def are_all(self, wanted):
        """True if the saying is true, or is not, as it is wanted, at all patches that come."""
        for patch in all_parts(self.view, self.reach):
            if self._is_true_at(patch) != wanted:
                return False
        return True

    def _is_true_at(self, patch):
        """True if the saying is true of the places with a patch."""
        around = {step: True for step in patch + (HERE,)}
        return HERE in self._true_of(self.saying, around)

    def _true_of(self, saying, around):
        """A dict of the places of a little floor of which a saying is true, the floor being such a dict."""
        # What is told of the outermost places is not right, but no place asks for it from as far as HERE.
        word = saying[0]
        if word == "all":
            return around
        if word == "has":
            return {place: True for place in around if place_sum(place, saying[1]) in around}
        if word in ("some", "many"):
            inner = self._true_of(saying[-1], around)
            least = saying[2] if word == "many" else 1
            steps = self._within(saying[1])
            return {place: True for place in around if _count(inner, place, steps) >= least}
        if word == "step":
            inner = self._true_of(saying[2], around)
            return {place: True for place in around if place_sum(place, saying[1]) in inner}
        one = self._true_of(saying[1], around)
        if word == "not":
            return {place: True for place in around if place not in one}
        other = self._true_of(saying[2], around)
        if word == "both":
            return {place: True for place in one if place in other}
        return {place: True for place in around if place in one or place in other}

    def _within(self, radius):
        """The list of the places from one place of the floor to another one within a radius, HERE too."""
        if radius not in self.steps:
            self.steps[radius] = [HERE] + near_places(self.view, radius)
        return self.steps[radius]


def _count(inner, place, steps):
    """To how many places that are in a dict a place comes by some steps."""
    return len([step for step in steps if place_sum(place, step) in inner])

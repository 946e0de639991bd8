"""Whether papers and rules are right, judged by ways of their own.

Sayings are judged on patches, taken as little floors; lines by integers that are combined row by row;
rules and places by corners and rims. What is judged may be any value.
"""

from wholefloors.checks import check_radius, is_integer
from wholefloors.floors import check_floor, check_floors, is_place
from wholefloors.lattices import can_be_moved, is_moved_by
from wholefloors.littles import Littles
from wholefloors.meetings import Meeting
from wholefloors.patches import patch_at
from wholefloors.sayings import check_saying
from wholefloors.wholes import place_sum
from wholefloors.windows import has_mate, view_of


def judge_saying(floor, saying, paper):
    """True if something is the right paper of a saying."""
    check_floor(floor)
    check_saying(saying)
    littles = Littles(view_of(floor), saying)
    word = _word_of(paper)
    if word in ("all", "none"):
        return len(paper) == 1 and littles.are_all(word == "all")
    if word != "some" or len(paper) != 3:
        return False
    _, x, y = paper
    return _is_of(littles.view, x) and _is_of(littles.view, y) and littles.is_true_of(x) and not littles.is_true_of(y)


def judge_lines(one, other, paper):
    """True if something is a right paper of whether the one tells the other one, any rims and places."""
    check_floors(one, other)
    kind = one[0]
    rims, goals = _rims(one), _rims(other)
    word = _word_of(paper)
    if word == "told" and len(paper) == 2 and _is_tuple(paper[1], len(goals)):
        return all([_is_onto(kind, rims, goal, pair) for goal, pair in zip(goals, paper[1])])
    if word != "never" or len(paper) != 2 or not _is_index(paper[1], goals):
        return False
    return not any([can_be_moved(kind, rim, goals[paper[1]]) for rim in rims])


def judge_rule(one, other, r, told):
    """True if something is the telling rule to a radius; if there is none, nothing is."""
    check_floors(one, other)
    check_radius(r)
    return _is_rule_form(told) and Meeting(one, other).is_rule(r, told)


def judge_parted(one, other, r, told):
    """True if something is (x, y, d) by which the one does not tell the other one to a radius."""
    check_floors(one, other)
    check_radius(r)
    if not _is_tuple(told, 3):
        return False
    x, y, d = told
    view, goal = view_of(one), view_of(other)
    if not (_is_of(view, x) and _is_of(view, y) and is_place(d)):
        return False
    if not has_mate(goal, place_sum(x, d)) or has_mate(goal, place_sum(y, d)):
        return False
    return patch_at(view, x, r) == patch_at(view, y, r) and Meeting(one, other).is_in_spread(d)


def _is_tuple(told, many):
    """True if something is a tuple of so many."""
    return isinstance(told, tuple) and len(told) == many


def _word_of(told):
    """The text with which a tuple begins; none of anything else."""
    return told[0] if isinstance(told, tuple) and told and isinstance(told[0], str) else ""


def _is_of(view, told):
    """True if something is a place of a floor."""
    return is_place(told) and has_mate(view, told)


def _is_index(told, things):
    """True if something is the index of one of some things."""
    return is_integer(told) and 0 <= told < len(things)


def _rims(floor):
    """The ends of each rim of a floor's window, as spots."""
    corners = view_of(floor).corners
    return [(spot, corners[at - len(corners) + 1]) for at, spot in enumerate(corners)]


def _is_onto(kind, rims, goal, told):
    """True if something is (i, place), the place's mate moving the rim i onto the line of another one."""
    if not _is_tuple(told, 2) or not _is_index(told[0], rims) or not is_place(told[1]):
        return False
    return is_moved_by(kind, rims[told[0]], told[1], goal)


def _is_rule_form(told):
    """True if something is a tuple of pairs of tuples of places."""
    if not isinstance(told, tuple):
        return False
    for pair in told:
        if not _is_tuple(pair, 2):
            return False
        for part in pair:
            if not isinstance(part, tuple) or not all(is_place(place) for place in part):
                return False
    return True

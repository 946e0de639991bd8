import unittest

from common import BIG, FLOOR, FLOORS, HERE, KINDS, NONSENSE, SQUARE, Ways, at, box_of, less_places, new_source, polygon
from test_floors import FAR, WRONG_FLOORS, WRONG_PLACES
from test_lines import THIRD, moves_onto
from test_patches import WRONG_RADII
from test_sayings import ALL, BESIDE, RIGHT, SAYINGS, UP, WRONG_SAYINGS, random_saying
from test_told import NARROW, PAIRS
from test_truths import ABOVE, ALIKE, FORTY, NONE, SOME, few
from wholefloors.errors import InvalidFloor, InvalidPair, InvalidRadius, InvalidSaying
from wholefloors.fields import number, times
from wholefloors.floors import added, has, moved_floor, places
from wholefloors.judges import judge_lines, judge_parted, judge_rule, judge_saying
from wholefloors.lines import moved_onto, tellable
from wholefloors.patches import patch_of
from wholefloors.polygons import moved
from wholefloors.sayings import holds, reach
from wholefloors.told import parted, spread, telling_rule, tells
from wholefloors.truths import decided

SOME_PLACES = ("some", HERE, RIGHT)
# What is no paper of a saying or of lines, whatever it is asked about.
WRONG_PAPERS = NONSENSE + [
    (), "all", ["all"], ("ALL",), ("every",), ("all", ()), ("all", "none"), (("all",),), ("none", HERE), ("some",), ("some", HERE),
    ("some", HERE, RIGHT, UP), list(SOME_PLACES), ("some", [(0, 0), (0, 0)], RIGHT), ("some", HERE, [[1, 0], [0, 0]]),
    ("some", HERE, ([1, 0], (0, 0))), ("some", ((False, 0), (0, 0)), RIGHT), ("some", HERE, ((True, 0), (0, 0))),
    ("some", ((0.0, 0), (0, 0)), RIGHT), ("some", HERE, None), ("some", None, RIGHT), ("some", (HERE, RIGHT)), (True, HERE, RIGHT),
    ("told",), ("told", ()), ("told", None), ("told", ((0, HERE),)), ("never",), ("never", None), ("never", True), ("never", "0"),
    ("never", 0, 0), ("never", (0,)), ["never", 0], ("never", -1), ("never", 10 ** 20), ("never", 0.0)]


def changed(rule):
    """Things that are very near to a telling rule, and are none."""
    (patch, steps), *rest = rule
    rest = tuple(rest)
    made = [rule[1:], rule + rule[-1:], rule + ((((HERE, RIGHT)), (HERE,)),), list(rule), ([patch, steps],) + rest,
            ((list(patch), steps),) + rest, ((patch, list(steps)),) + rest, ((patch, steps + (FAR,)),) + rest,
            ((patch, steps, ()),) + rest, ((patch,),) + rest, ((patch + (FAR,), steps),) + rest, (None,) + rest, rule + (None,)]
    for at, (patch, steps) in enumerate(rule):
        for wrong in near_steps(steps):
            made.append(rule[:at] + ((patch, wrong),) + rule[at + 1:])
        if at:
            made.append(rule[:at - 1] + (rule[at], rule[at - 1]) + rule[at + 1:])
        for wrong in near_steps(patch):
            made.append(rule[:at] + ((wrong, steps),) + rule[at + 1:])
    return made


def near_steps(steps):
    """A tuple of places with one more, one less, two exchanged, one a list, one with a boolean."""
    made = [steps + (((0, 0), (0, 1)),), ((((-1, 0), (-1, 0)),) + steps), steps + steps[:1] if steps else (HERE,) * 2]
    for at, step in enumerate(steps):
        made.append(steps[:at] + steps[at + 1:])
        made.append(steps[:at] + (list(step),) + steps[at + 1:])
        (a, b), second = step
        made.append(steps[:at] + (([a, b], second),) + steps[at + 1:])
        if a in (0, 1):
            made.append(steps[:at] + (((bool(a), b), second),) + steps[at + 1:])
        made.append(steps[:at] + (((float(a), b), second),) + steps[at + 1:])
        if at:
            made.append(steps[:at - 1] + (step, steps[at - 1]) + steps[at + 1:])
    return made


class JudgesTest(Ways, unittest.TestCase):
    def test_heads(self):
        self.named(judge_saying, "floor", "saying", "paper")
        self.named(judge_lines, "one", "other", "paper")
        self.named(judge_rule, "one", "other", "r", "told")
        self.named(judge_parted, "one", "other", "r", "told")

    def test_the_right_papers_of_sayings(self):
        for floor in FLOORS + SOME:
            around = places(floor, box_of(-3, -3, 3, 3))
            for saying in SAYINGS:
                if reach(floor[0], saying) > 2 or not few(saying, floor):
                    continue
                paper = decided(floor, saying)
                self.assertIs(self.same_by_name(judge_saying, floor, saying, paper), True, (floor, saying))
                for word in ("all", "none"):
                    self.assertIs(judge_saying(floor, saying, (word,)), paper == (word,))
                right = [place for place in around if holds(floor, saying, place)]
                for x in around[::7]:
                    for y in around[::5]:
                        expected = x in right and y not in right
                        self.assertIs(judge_saying(floor, saying, ("some", x, y)), expected)

    def test_papers_of_the_document(self):
        self.assertIs(judge_saying(BIG, BESIDE, SOME_PLACES), True)
        for wrong in (("all",), ("none",), ("some", RIGHT, HERE), ("some", HERE, HERE), ("some", HERE, FAR), ("some", HERE, ((2, 0), (0, 0)))):
            self.assertIs(judge_saying(BIG, BESIDE, wrong), False)
        self.assertIs(judge_saying(BIG, ("not", BESIDE), ("some", RIGHT, HERE)), True)
        # A place that is none of the floor makes no paper, even if nothing is true of it.
        self.assertIs(judge_saying(BIG, ALL, ("some", HERE, FAR)), False)
        self.assertIs(judge_saying(FLOOR, NONE, ("none",)), True)

    def test_same_sayings_have_the_same_papers(self):
        for floor in [FLOOR, BIG, FLOORS[3]] + SOME[:2]:
            for one, other in ALIKE:
                if reach(floor[0], one) <= 2 and reach(floor[0], other) <= 2:
                    self.assertIs(judge_saying(floor, one, decided(floor, other)), True)
                    self.assertIs(judge_saying(floor, ("not", one), decided(floor, other)), False)

    def test_random_sayings(self):
        source = new_source(171)
        for floor in FLOORS[:5] + SOME:
            for _ in range(8):
                saying = random_saying(source, 3)
                if reach(floor[0], saying) <= 2 and few(saying, floor):
                    paper = decided(floor, saying)
                    self.assertIs(judge_saying(floor, saying, paper), True)
                    self.assertIs(judge_saying(floor, ("not", saying), paper), False)

    def test_floors_moved_far_away(self):
        for move in (FAR, FORTY):
            floor = moved_floor(BIG, move)
            self.assertIs(judge_saying(floor, BESIDE, ("some", move, added(move, RIGHT))), True)
            self.assertIs(judge_saying(floor, BESIDE, SOME_PLACES), False)
            self.assertIs(judge_lines(BIG, floor, tellable(BIG, floor)), True)
            self.assertIs(judge_lines(BIG, floor, ("told", tuple((i, move) for i in range(4)))), True)
            self.assertIs(judge_lines(BIG, floor, ("told", tuple((i, added(move, RIGHT)) for i in range(4)))), False)

    def test_what_is_no_paper(self):
        for wrong in WRONG_PAPERS:
            for saying in (BESIDE, ("both", BESIDE, ABOVE)):
                self.assertIs(judge_saying(BIG, saying, wrong), False, wrong)
            self.assertIs(judge_saying(BIG, ALL, wrong), False, wrong)
            self.assertIs(judge_lines(FLOOR, BIG, wrong), False, wrong)
            self.assertIs(judge_lines(FLOOR, THIRD, wrong), False, wrong)
            self.assertIs(judge_rule(FLOOR, BIG, 0, wrong), False, wrong)
            self.assertIs(judge_parted(BIG, FLOOR, 0, wrong), False, wrong)

    def test_papers_of_lines(self):
        seen = set()
        for one, other in PAIRS + [(THIRD, THIRD), (FLOORS[3], FLOORS[4]), (FLOORS[5], FLOORS[6]), (FLOORS[7], FLOORS[5])]:
            paper = tellable(one, other)
            seen.add(paper[0])
            self.assertIs(self.same_by_name(judge_lines, one, other, paper), True)
            for j in range(len(other[1])):
                free = not any(moved_onto(one, i, other, j) is not None for i in range(len(one[1])))
                self.assertIs(judge_lines(one, other, ("never", j)), free)
            self.assertIs(judge_lines(one, other, ("never", len(other[1]))), False)
            if paper[0] == "told":
                self.check_pairs(one, other, paper[1])
        self.assertEqual(seen, {"told", "never"})

    def check_pairs(self, one, other, told):
        """Any rims and places that do it are right, and nothing else."""
        for j, (i, place) in enumerate(told):
            for wrong in ((i, place, place), (i,), [i, place], (str(i), place), (i, list(place)), (i - len(one[1]), place), (len(one[1]), place),
                          (float(i), place), None, (i, None), (place, i)) + (((bool(i), place),) if i < 2 else ()):
                self.assertIs(judge_lines(one, other, ("told", told[:j] + (wrong,) + told[j + 1:])), False)
            for k in range(len(one[1])):
                for step in (HERE, RIGHT, UP, ((0, 1), (0, 0)), ((0, 0), (1, -1))):
                    pair = (k, added(place, step))
                    self.assertIs(judge_lines(one, other, ("told", told[:j] + (pair,) + told[j + 1:])), moves_onto(one, k, other, j, pair[1]))
        for wrong in (told[:-1], told + told[-1:], list(told)):
            self.assertIs(judge_lines(one, other, ("told", wrong)), False)

    def test_lines_that_can_not_be_moved_on_one_another(self):
        # The third's own lines are moved by whole numbers of the kind alone: halves and thirds are not reached.
        self.assertIs(judge_lines(FLOOR, THIRD, ("never", 1)), True)
        for j in (0, 2, 3, 4, -1):
            self.assertIs(judge_lines(FLOOR, THIRD, ("never", j)), False)
        for kind in KINDS:
            aslant = (kind, polygon(kind, [at(0, 0), at(2, 0), at(2, 1)]))
            half = (kind, polygon(kind, [((1, 0, 2), (0, 0, 1)), ((5, 0, 2), (0, 0, 1)), ((5, 0, 2), (1, 0, 1))]))
            self.assertEqual([judge_lines(aslant, half, ("never", j)) for j in (0, 1, 2)], [False, True, True])
            self.assertEqual(tellable(aslant, half), ("never", 1))

    def test_windows_moved_by_any_points(self):
        source = new_source(172)
        count = [0, 0]
        for floor in FLOORS + SOME:
            kind = floor[0]
            for n in (1, 1, 2, 2, 3, 4):
                shift = tuple(number(source.randint(-9, 9), source.randint(-9, 9), n) for _ in range(2))
                other = (kind, moved(kind, floor[1], shift))
                self.assertIs(judge_lines(floor, other, tellable(floor, other)), True)
                for j in range(len(other[1])):
                    free = all(moved_onto(floor, i, other, j) is None for i in range(len(floor[1])))
                    count[free] += 1
                    self.assertIs(judge_lines(floor, other, ("never", j)), free)
        self.assertGreater(min(count), 60)

    def test_windows_stretched_by_any_numbers(self):
        # The rims' numbers have common divisors that are no integers.
        source = new_source(173)
        count = [0, 0]
        for floor in FLOORS + SOME:
            kind = floor[0]
            for _ in range(4):
                factor = number(source.randint(1, 9), source.randint(0, 9), 1)
                wide = (kind, polygon(kind, [(times(kind, factor, x), times(kind, factor, y)) for x, y in floor[1]]))
                shift = tuple(number(source.randint(-9, 9), source.randint(-9, 9), 1) for _ in range(2))
                for one, other in ((wide, (kind, moved(kind, floor[1], shift))), (floor, (kind, moved(kind, wide[1], shift)))):
                    for j in range(len(other[1])):
                        free = all(moved_onto(one, i, other, j) is None for i in range(len(one[1])))
                        count[free] += 1
                        self.assertIs(judge_lines(one, other, ("never", j)), free)
        self.assertGreater(min(count), 20)

    def test_rules(self):
        for one, other in PAIRS:
            for r in (0, 1):
                if not tells(one, other, r):
                    self.assertIs(judge_rule(one, other, r, ()), False)
                    self.assertIs(judge_rule(one, other, r, (((), (HERE,)),)), False)
                    continue
                rule = telling_rule(one, other, r)
                self.assertIs(self.same_by_name(judge_rule, one, other, r, rule), True)
                for wrong in changed(rule):
                    self.assertIs(judge_rule(one, other, r, wrong), False, wrong)
                self.assertIs(judge_rule(one, other, r + 1, rule), rule == telling_rule(one, other, r + 1))
        for wrong in NONSENSE + [((),), (None,), (((), None),), ((None, ()),), (((), (HERE, None)),), (([], [HERE]),), (((), HERE),)]:
            self.assertIs(judge_rule(FLOOR, FLOOR, 0, wrong), False)

    def test_places_that_part(self):
        count = 0
        for one, other in PAIRS:
            far = spread(one, other)
            around = places(one, box_of(-2, -2, 2, 2))
            for r in (0, 1):
                told = parted(one, other, r)
                if told is not None:
                    self.assertIs(self.same_by_name(judge_parted, one, other, r, told), True)
                    self.check_places(one, other, r, told)
                for x in around[::3]:
                    for y in around[::2]:
                        for d in (HERE, RIGHT, UP, ((-1, 0), (0, 0)), ((0, 1), (0, 0)), ((0, -1), (2, 0))):
                            expected = (patch_of(one, x, r) == patch_of(one, y, r) and has(other, added(x, d))
                                        and not has(other, added(y, d)) and self.is_within(one[0], d, far))
                            self.assertIs(judge_parted(one, other, r, (x, y, d)), expected)
                            count += expected
        self.assertGreater(count, 20)

    def is_within(self, kind, d, far):
        return reach(kind, ("has", d)) <= far

    def check_places(self, one, other, r, told):
        x, y, d = told
        for wrong in ((y, x, d), (x, x, d), (x, y), (x, y, d, d), [x, y, d], (list(x), y, d), (x, list(y), d), (x, y, list(d)),
                      (x, y, None), (None, y, d), (x, None, d), (x, FAR, d)):
            if wrong != told:
                self.assertIs(judge_parted(one, other, r, wrong), False)
        for wrong in WRONG_PLACES:
            for three in ((wrong, y, d), (x, wrong, d), (x, y, wrong)):
                self.assertIs(judge_parted(one, other, r, three), False)

    def test_steps_beyond_the_spread(self):
        # x and d, added, is a place, y and d not, but d is further than the spread of 0.
        self.assertEqual(spread(BIG, FLOOR), 0)
        x, y = RIGHT, ((1, 0), (1, 0))
        self.assertEqual([patch_of(BIG, x, 0), patch_of(BIG, y, 0)], [(), ()])
        d = less_places(HERE, x)
        self.assertEqual([has(FLOOR, added(x, d)), has(FLOOR, added(y, d))], [True, False])
        self.assertIs(judge_parted(BIG, FLOOR, 0, (x, y, d)), False)
        self.assertIs(judge_parted(BIG, FLOOR, 0, (HERE, x, HERE)), True)
        # However far it is.
        far = next(place for place in places(FLOOR, box_of(90, 90, 99, 99)))
        there = less_places(far, x)
        self.assertEqual([has(FLOOR, added(x, there)), has(FLOOR, added(y, there))], [True, False])
        self.assertIs(judge_parted(BIG, FLOOR, 0, (x, y, there)), False)

    def test_told_floors_have_no_places_that_part(self):
        for d in (HERE, RIGHT, UP):
            self.assertIs(judge_parted(FLOOR, FLOOR, 0, (HERE, HERE, d)), False)
        self.assertIs(judge_rule(BIG, NARROW, 1, telling_rule(BIG, NARROW, 1)), True)

    def test_wrong_floors_come_first(self):
        for wrong in WRONG_FLOORS:
            self.refused(InvalidFloor, wrong, judge_saying, wrong, None, None)
            for function, rest in ((judge_lines, (None,)), (judge_rule, (-1, None)), (judge_parted, (-1, None))):
                self.refused(InvalidFloor, wrong, function, wrong, None, *rest)
                self.refused(InvalidFloor, wrong, function, FLOOR, wrong, *rest)

    def test_wrong_sayings(self):
        for wrong in WRONG_SAYINGS:
            self.refused(InvalidSaying, wrong, judge_saying, BIG, wrong, None)

    def test_unlike_kinds_and_wrong_radii(self):
        for kind in (3, 5):
            both = (BIG, (kind, SQUARE))
            self.refused(InvalidPair, both, judge_lines, *both, None)
            for function in (judge_rule, judge_parted):
                self.refused(InvalidPair, both, function, *both, -1, None)
        for wrong in WRONG_RADII:
            for function in (judge_rule, judge_parted):
                self.refused(InvalidRadius, wrong, function, FLOOR, BIG, wrong, None)


if __name__ == "__main__":
    unittest.main()

import unittest
from functools import cache

from common import (
    BIG, FLOOR, FLOORS, HERE, KINDS, SQUARE, Ways, at, box_of, is_deep_tuple, less_places, new_source, polygon, random_polygon, real,
    size_by_hand)
from test_floors import FAR, WRONG_FLOORS, WRONG_PLACES
from test_lines import THIRD
from test_patches import WRONG_RADII
from test_sayings import RIGHT, UP
from test_truths import FORTY, SOME, count_patches
from wholefloors.errors import InvalidFloor, InvalidPair, InvalidRadius, NotInFloor, NotTold
from wholefloors.floors import added, has, mate_of, moved_floor, places, turned_about
from wholefloors.lines import tellable
from wholefloors.patches import found, patch_of, patches
from wholefloors.polygons import area, met, moved
from wholefloors.told import least_telling, parted, spread, telling_rule, tells, told_places

NARROW = (2, polygon(2, [at(0, 0), at(1, 0), at(1, 2), at(0, 2)]))
UNIT_BOX = box_of(-1, -1, 1, 1)


def common_floor(floor, step, move=HERE):
    """The floor of the places of a floor that have a step, moved by a place."""
    kind, window = floor
    other = met(kind, window, moved(kind, window, mate_of(kind, turned_about(step))))
    return moved_floor((kind, other), move)


def kept(floors):
    """The pairs within the bounds of told.py: spreads of at most 4, at most 60 patches to 1."""
    return [(one, other) for one, other in floors if count_patches(one, 1) <= 60 and spread(one, other) <= 4]


def pairs():
    source = new_source(161)
    made = [(FLOOR, BIG), (BIG, FLOOR), (FLOOR, THIRD), (THIRD, FLOOR), (BIG, BIG), (BIG, NARROW), (NARROW, BIG),
            (BIG, common_floor(BIG, RIGHT)), (BIG, common_floor(BIG, RIGHT, UP)), (FLOORS[3], common_floor(FLOORS[3], RIGHT)),
            (FLOORS[4], common_floor(FLOORS[4], UP)), (FLOORS[4], common_floor(FLOORS[4], UP, RIGHT))]
    made += [(floor, moved_floor(floor, move)) for floor in (FLOOR, FLOORS[2], (5, SQUARE)) for move in (RIGHT, ((1, 1), (0, 0)), FAR, FORTY)]
    for floor in SOME[:3]:
        window = random_polygon(source, floor[0], 2)
        if real(floor[0], area(floor[0], window)) > 0.25:
            made += [(floor, (floor[0], window)), ((floor[0], window), floor)]
    return kept(made)


PAIRS = pairs()


def nearest_by_hand(floor, place):
    """How far a place is from the nearest place of a floor, at least 0, very nearly."""
    kind = floor[0]
    (a, b), (c, d) = place
    for far in range(1, 9):
        box = ((a - far, b, 1), (c - far, d, 1), (a + far, b, 1), (c + far, d, 1))
        around = places(floor, box)
        if around:
            return min(size_by_hand(kind, less_places(told, place)) for told in around)
    return 99


@cache
def told_by_hand(one, other, r):
    """A dict of the patches of places in a box, each with the steps that hold for all such places and those for some."""
    far = spread(one, other)
    told = {}
    for place in places(one, box_of(-7, -7, 7, 7)):
        (a, b), (c, d) = place
        around = places(other, ((a - far, b, 1), (c - far, d, 1), (a + far, b, 1), (c + far, d, 1)))
        steps = {less_places(there, place) for there in around}
        patch = patch_of(one, place, r)
        every, some = told.get(patch, (steps, steps))
        told[patch] = (every & steps, some | steps)
    return told


class ToldTest(Ways, unittest.TestCase):
    def test_heads(self):
        self.named(spread, "one", "other")
        for function in (tells, telling_rule, parted):
            self.named(function, "one", "other", "r")
        self.named(least_telling, "one", "other", "most")
        self.named(told_places, "one", "other", "r", "some")

    def test_spreads(self):
        self.assertEqual([spread(FLOOR, FLOOR), spread(BIG, FLOOR), spread(BIG, BIG), spread(FLOOR, BIG)], [0, 0, 0, 1])
        for one, other in PAIRS:
            far = self.same_by_name(spread, one, other)
            self.assertIs(type(far), int)
            around = places(other, box_of(-6, -6, 6, 6))
            self.assertTrue(all(nearest_by_hand(one, place) <= far for place in around))
            if set(around) <= set(places(one, box_of(-6, -6, 6, 6))):
                self.assertEqual(far, 0)
        for floor in FLOORS:
            self.assertEqual(spread(floor, floor), 0)

    def test_spreads_are_the_least(self):
        for one, other in [(FLOOR, BIG), (THIRD, FLOOR), (NARROW, BIG), (FLOOR, moved_floor(FLOOR, UP)), (FLOOR, moved_floor(FLOOR, RIGHT))]:
            far = spread(one, other)
            farthest = max(nearest_by_hand(one, place) for place in places(other, box_of(-12, -12, 12, 12)))
            self.assertGreater(farthest, far - 1)

    def test_rules_by_hand(self):
        seen = set()
        for one, other in PAIRS:
            for r in (0, 1):
                by_hand = told_by_hand(one, other, r)
                told = self.same_by_name(tells, one, other, r)
                seen.add(told)
                if any(every != some for every, some in by_hand.values()):
                    self.assertIs(told, False)
                if not told:
                    self.refused(NotTold, r, telling_rule, one, other, r)
                    continue
                rule = self.same_by_name(telling_rule, one, other, r)
                self.assertTrue(is_deep_tuple(rule))
                self.assertEqual([patch for patch, _ in rule], [patch for patch, _ in patches(one, r)])
                for patch, steps in rule:
                    self.assertEqual(list(steps), sorted(steps))
                    if patch in by_hand:
                        self.assertEqual(set(steps), by_hand[patch][0])
        self.assertEqual(seen, {False, True})

    def test_places_that_part(self):
        for one, other in PAIRS:
            for r in (0, 1):
                told = self.same_by_name(parted, one, other, r)
                self.assertEqual(told is None, tells(one, other, r))
                if told is None:
                    continue
                x, y, d = told
                self.assertTrue(is_deep_tuple(told))
                self.assertTrue(has(one, x) and has(one, y))
                self.assertEqual(patch_of(one, x, r), patch_of(one, y, r))
                self.assertLessEqual(size_by_hand(one[0], d), spread(one, other))
                self.assertEqual([has(other, added(x, d)), has(other, added(y, d))], [True, False])

    def test_least_radii(self):
        for one, other in PAIRS:
            told = [r for r in (0, 1) if tells(one, other, r)]
            least = self.same_by_name(least_telling, one, other, 1)
            self.assertEqual(least, told[0] if told else None)
            self.assertEqual(told, list(range(least, 2)) if told else [])
            self.assertEqual(least_telling(one, other, 0), 0 if least == 0 else None)
        self.assertEqual([least_telling(FLOOR, BIG, 1), least_telling(BIG, NARROW, 2), least_telling(BIG, NARROW, 0)], [0, 1, None])

    def test_the_examples_of_squares(self):
        self.assertEqual(telling_rule(FLOOR, FLOOR, 0), (((), (HERE,)),))
        # By each place of the small square there are four of the big one, to the right and above.
        self.assertEqual(telling_rule(FLOOR, BIG, 0), (((), tuple(sorted(((a, 0), (b, 0)) for a in (0, 1) for b in (0, 1)))),))
        self.assertEqual(tells(BIG, FLOOR, 0), False)
        rule = dict(telling_rule(BIG, FLOOR, 1))
        self.assertEqual([rule[patch_of(BIG, place, 1)] for place in (HERE, RIGHT, UP, ((1, 0), (1, 0)))], [(HERE,), (), (), ()])
        self.assertEqual(telling_rule(BIG, NARROW, 1), tuple(sorted(
            (patch, (HERE,) if RIGHT in patch else ()) for patch, _ in patches(BIG, 1))))

    def test_a_floor_that_is_never_told(self):
        self.assertEqual(tellable(FLOOR, THIRD)[0], "never")
        for r in (0, 1, 2):
            self.assertIs(tells(FLOOR, THIRD, r), False)
            self.assertIsNotNone(parted(FLOOR, THIRD, r))
        self.assertIsNone(least_telling(FLOOR, THIRD, 2))
        # What is told to a radius is tellable.
        for one, other in PAIRS:
            if tells(one, other, 1):
                self.assertEqual(tellable(one, other)[0], "told")

    def test_floors_and_themselves(self):
        for floor in FLOORS + SOME:
            self.assertIs(tells(floor, floor, 0), True)
            self.assertEqual(telling_rule(floor, floor, 0), (((), (HERE,)),))
            self.assertIsNone(parted(floor, floor, 0))
            self.assertEqual(least_telling(floor, floor, 2), 0)
            some = tuple(places(floor, UNIT_BOX))
            self.assertEqual(told_places(floor, floor, 0, some), some)
            if count_patches(floor, 1) <= 60:
                self.assertEqual(telling_rule(floor, floor, 1), tuple((patch, (HERE,)) for patch, _ in patches(floor, 1)))

    def test_places_that_come(self):
        for one, other in PAIRS:
            for r in (0, 1):
                if not tells(one, other, r):
                    continue
                rule = dict(telling_rule(one, other, r))
                some = tuple(places(one, box_of(-4, -4, 4, 4)))
                expected = tuple(sorted({added(place, step) for place in some for step in rule[patch_of(one, place, r)]}))
                self.assertEqual(self.same_by_name(told_places, one, other, r, some), expected)
                self.assertTrue(is_deep_tuple(expected))
                self.assertTrue(all(has(other, place) for place in expected))
                # In another sequence, some twice, and none.
                self.assertEqual(told_places(one, other, r, some[::-1] + some[:5]), expected)
                self.assertEqual(told_places(one, other, r, ()), ())
                self.assertLessEqual(set(places(other, box_of(-4, -4, 4, 4))),
                                     set(told_places(one, other, r, tuple(places(one, box_of(-8, -8, 8, 8))))))

    def test_floors_moved_far_away(self):
        for one, other in [(BIG, FLOOR), (FLOOR, BIG), (BIG, NARROW), (FLOOR, THIRD), (SOME[0], SOME[0])]:
            for move in (FAR, FORTY):
                first, second = moved_floor(one, move), moved_floor(other, move)
                self.assertEqual(spread(first, second), spread(one, other))
                self.assertIs(tells(first, second, 1), tells(one, other, 1))
                if tells(one, other, 1):
                    self.assertEqual(telling_rule(first, second, 1), telling_rule(one, other, 1))
                else:
                    x, y, d = parted(first, second, 1)
                    self.assertEqual([has(second, added(x, d)), has(second, added(y, d))], [True, False])

    def test_floors_moved_to_others(self):
        for floor in (FLOOR, (5, SQUARE)):
            for move in (FAR, FORTY):
                other = moved_floor(floor, move)
                self.assertLessEqual(spread(floor, other), 4)
                self.assertEqual(tellable(floor, other)[0], "told")
                told = parted(floor, other, 0)
                if told is not None:
                    x, y, d = told
                    self.assertEqual([has(other, added(x, d)), has(other, added(y, d))], [True, False])
        # Each place, moved by the place, is one of the moved floor; the spread reaches as far.
        for move in (((1, 1), (0, 0)), ((2, 1), (0, 0))):
            other = moved_floor(BIG, move)
            for patch, _ in patches(BIG, 1):
                self.assertTrue(has(other, added(found(BIG, 1, patch), move)))

    def test_wrong_floors_come_first(self):
        for wrong in WRONG_FLOORS:
            self.refused(InvalidFloor, wrong, spread, wrong, None)
            self.refused(InvalidFloor, wrong, spread, FLOOR, wrong)
            for function in (tells, telling_rule, parted, least_telling):
                self.refused(InvalidFloor, wrong, function, wrong, None, -1)
                self.refused(InvalidFloor, wrong, function, FLOOR, wrong, -1)
            self.refused(InvalidFloor, wrong, told_places, wrong, None, -1, (None,))
            self.refused(InvalidFloor, wrong, told_places, FLOOR, wrong, -1, (None,))

    def test_unlike_kinds(self):
        for kind in (3, 5):
            both = (BIG, (kind, SQUARE))
            self.refused(InvalidPair, both, spread, *both)
            for function in (tells, telling_rule, parted, least_telling):
                self.refused(InvalidPair, both, function, *both, None)
            self.refused(InvalidPair, both, told_places, *both, None, None)

    def test_wrong_radii(self):
        for wrong in WRONG_RADII:
            for function in (tells, telling_rule, parted, least_telling):
                self.refused(InvalidRadius, wrong, function, FLOOR, THIRD, wrong)
            self.refused(InvalidRadius, wrong, told_places, FLOOR, THIRD, wrong, (None,))

    def test_what_is_not_told(self):
        for one, other, r in ((FLOOR, THIRD, 0), (FLOOR, THIRD, 2), (BIG, FLOOR, 0)):
            self.refused(NotTold, r, telling_rule, one, other, r)
            self.refused(NotTold, r, told_places, one, other, r, ())
            self.refused(NotTold, r, told_places, one, other, r, (HERE,))

    def test_what_is_no_place_of_the_one(self):
        for wrong in WRONG_PLACES + [((1, 0), (0, 0)), ((0, 0), (-1, 0)), FAR]:
            # Ahead of what is not told.
            for other, r in ((BIG, 0), (THIRD, 1)):
                self.refused(NotInFloor, wrong, told_places, FLOOR, other, r, (wrong,))
                self.refused(NotInFloor, wrong, told_places, FLOOR, other, r, (HERE, HERE, wrong, None, FAR))

    def test_kinds(self):
        for kind in KINDS:
            self.assertEqual(telling_rule((kind, SQUARE), (kind, SQUARE), 0), (((), (HERE,)),))


if __name__ == "__main__":
    unittest.main()

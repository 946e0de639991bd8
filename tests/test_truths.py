import unittest
from functools import cache

from common import BIG, FLOOR, FLOORS, HERE, SQUARE, Ways, at, box_of, is_deep_tuple, less_places, new_source, polygon, size_by_hand
from test_floors import FAR, WRONG_FLOORS
from test_patches import random_floors
from test_sayings import ALL, ASLANT, BESIDE, RIGHT, SAYINGS, UP, WRONG_SAYINGS, random_saying
from wholefloors.errors import InvalidFloor, InvalidSaying
from wholefloors.fields import by, compared, minus, plus
from wholefloors.floors import added, has, mate_of, moved_floor, places, turned_about
from wholefloors.patches import found, near, patch_of, patches, share
from wholefloors.polygons import area, met, moved
from wholefloors.regions import (
    both_of, has_point, is_region, joined, less_of, lies_in, moved_region, parting, region_area, same_region)
from wholefloors.returns import again
from wholefloors.sayings import holds, reach, true_places
from wholefloors.truths import (
    again_true, decided, implies, same_sayings, saying_region, saying_share, true_patches, unlike)

ABOVE = ("has", UP)
NONE = ("not", ALL)
ZERO, ONE = (0, 0, 1), (1, 0, 1)
FORTY = ((10 ** 40 - 7, -3 * 10 ** 39), (-10 ** 40, 10 ** 39 + 1))
SOME = random_floors(141, 4, 2)
# Sayings that say the same in other words, of all floors.
ALIKE = [
    (ALL, ("has", HERE)), (ALL, ("step", HERE, ALL)), (ALL, ("some", 1, ALL)), (ALL, ("many", 1, 0, NONE)), (ALL, ("many", 0, 1, ALL)),
    (NONE, ("many", 0, 2, ALL)), (NONE, ("both", BESIDE, ("not", BESIDE))), (ALL, ("either", BESIDE, ("not", BESIDE))),
    (BESIDE, ("step", RIGHT, ALL)), (BESIDE, ("not", ("not", BESIDE))), (BESIDE, ("some", 0, BESIDE)), (BESIDE, ("many", 0, 1, BESIDE)),
    (BESIDE, ("step", HERE, BESIDE)), (("both", BESIDE, ABOVE), ("both", ABOVE, BESIDE)),
    (("either", BESIDE, ABOVE), ("not", ("both", ("not", ABOVE), ("not", BESIDE)))), (("some", 1, BESIDE), ("many", 1, 1, BESIDE)),
    (("many", 1, 10 ** 20, ALL), NONE), (("step", RIGHT, ("has", UP)), ("both", BESIDE, ("has", ((1, 0), (1, 0)))))]


@cache
def few(saying, floor):
    """True if a saying and a floor are within the bounds of truths.py."""
    r = reach(floor[0], saying)
    return r <= 3 and (r == 0 or len(near(floor, r)) < 60 and count_patches(floor, r) <= 60)


@cache
def count_patches(floor, r):
    return len(patches(floor, r))


def cases(floors):
    """All (floor, saying) of some floors that are within the bounds."""
    return [(floor, saying) for floor in floors for saying in SAYINGS if few(saying, floor)]


def region_by_words(floor, saying):
    """By [18], word for word, with regions."""
    kind, window = floor
    word, *rest = saying
    whole = (window,)

    def inner(told):
        return region_by_words(floor, told)

    def stepped(step, told):
        return both_of(kind, whole, moved_region(kind, told, mate_of(kind, turned_about(step))))

    if word == "all":
        return whole
    if word == "has":
        return stepped(rest[0], whole)
    if word == "step":
        return stepped(rest[0], inner(rest[1]))
    if word == "not":
        return less_of(kind, whole, inner(rest[0]))
    if word == "both":
        return both_of(kind, inner(rest[0]), inner(rest[1]))
    if word == "either":
        return joined(kind, inner(rest[0]), inner(rest[1]))
    told = inner(rest[-1])
    least = rest[1] if word == "many" else 1
    # counted[k] is where at least k of the regions so far are.
    counted = [whole]
    for step in [HERE] + near(floor, rest[0]):
        there = stepped(step, told)
        more = [both_of(kind, region, there) for region in counted]
        counted = [whole] + [joined(kind, one, other) for one, other in zip(counted[1:] + [()], more)]
    return counted[least] if least < len(counted) else ()


def has_many(saying):
    return any(part == "many" or isinstance(part, tuple) and has_many(part) for part in saying)


class TruthsTest(Ways, unittest.TestCase):
    def test_heads(self):
        for function in (saying_region, saying_share, decided, again_true, true_patches):
            self.named(function, "floor", "saying")
        for function in (same_sayings, implies, unlike):
            self.named(function, "floor", "one", "other")

    def test_regions_by_the_words_of_the_document(self):
        for floor, saying in cases(FLOORS[:4] + [FLOORS[7]] + SOME[:2]):
            if has_many(saying) and len(near(floor, saying[1] if isinstance(saying[1], int) else 1)) > 9:
                continue
            kind = floor[0]
            region = self.same_by_name(saying_region, floor, saying)
            self.assertTrue(is_deep_tuple(region))
            self.assertTrue(is_region(kind, region))
            self.assertTrue(same_region(kind, region, region_by_words(floor, saying)), (floor, saying))
            self.assertEqual(self.same_by_name(saying_share, floor, saying), by(kind, region_area(kind, region), area(kind, floor[1])))

    def test_mates_of_places_are_in_the_region(self):
        for floor, saying in cases(FLOORS + SOME):
            region = saying_region(floor, saying)
            right = true_places(floor, saying, box_of(-4, -4, 4, 4))
            for place in places(floor, box_of(-4, -4, 4, 4)):
                self.assertIs(has_point(floor[0], region, mate_of(floor[0], place)), place in right)
            self.assertFalse(has_point(floor[0], region, at(90, 90)))

    def test_shares_by_patches(self):
        for floor, saying in cases(FLOORS + SOME):
            kind = floor[0]
            told = self.same_by_name(true_patches, floor, saying)
            self.assertIs(type(told), list)
            self.assertEqual(told, sorted(told))
            total = ZERO
            for patch, own in patches(floor, reach(kind, saying)):
                place = found(floor, reach(kind, saying), patch)
                self.assertIs(holds(floor, saying, place), patch in told)
                if patch in told:
                    total = plus(total, own)
            self.assertEqual(saying_share(floor, saying), total)

    def test_which_are_decided(self):
        kinds = {}
        for floor, saying in cases(FLOORS + SOME):
            paper = self.same_by_name(decided, floor, saying)
            whole = saying_share(floor, saying)
            kinds[paper[0]] = True
            if paper[0] == "some":
                _, x, y = paper
                self.assertTrue(is_deep_tuple(paper))
                self.assertEqual([has(floor, x), has(floor, y)], [True, True])
                self.assertEqual([holds(floor, saying, x), holds(floor, saying, y)], [True, False])
                self.assertEqual([compared(floor[0], whole, ZERO), compared(floor[0], whole, ONE)], [1, -1])
            else:
                self.assertEqual((paper, whole), (("all",), ONE) if paper == ("all",) else (("none",), ZERO))
        self.assertEqual(sorted(kinds), ["all", "none", "some"])
        self.assertEqual(decided(BIG, ("some", 1, BESIDE)), ("all",))
        self.assertEqual(decided(FLOOR, BESIDE), ("none",))

    def test_shares_of_the_big_square(self):
        quarter = (1, 0, 4)
        for saying, expected in (
                (ALL, ONE), (NONE, ZERO), (BESIDE, (1, 0, 2)), (ABOVE, (1, 0, 2)), (("both", BESIDE, ABOVE), quarter),
                (("either", BESIDE, ABOVE), (3, 0, 4)), (("not", ("either", BESIDE, ABOVE)), quarter), (("has", ((2, 0), (0, 0))), ZERO),
                (("has", ((0, 1), (0, 0))), (2, -1, 2)), (("step", RIGHT, ABOVE), quarter), (("step", RIGHT, BESIDE), ZERO),
                (("many", 1, 4, ALL), ONE), (("many", 1, 5, ALL), ZERO), (("some", 1, BESIDE), ONE), (("many", 0, 0, NONE), ONE),
                (("some", 0, BESIDE), (1, 0, 2)), (("many", 0, 2, ALL), ZERO), (("has", HERE), ONE), (("step", HERE, BESIDE), (1, 0, 2)),
                (("many", 1, 2, BESIDE), ONE), (("many", 1, 3, BESIDE), ZERO), (("many", 1, 1, ("both", BESIDE, ABOVE)), ONE)):
            self.assertEqual(saying_share(BIG, saying), expected, saying)

    def test_sayings_that_say_the_same(self):
        for floor in FLOORS + SOME[:2]:
            for one, other in ALIKE:
                self.assertIs(self.same_by_name(same_sayings, floor, one, other), True, (one, other))
                self.assertIsNone(self.same_by_name(unlike, floor, one, other))
                self.assertIs(self.same_by_name(implies, floor, one, other), True)
                self.assertIs(implies(floor, other, one), True)
                self.assertIs(same_sayings(floor, one, ("not", other)), False)
                self.assertIsNotNone(unlike(floor, ("not", one), other))
                self.assertEqual(saying_share(floor, one), saying_share(floor, other))

    def test_pairs_of_sayings(self):
        source = new_source(142)
        for floor in FLOORS[:5] + SOME:
            for one, other in [(source.choice(SAYINGS), source.choice(SAYINGS)) for _ in range(15)]:
                if not (few(one, floor) and few(other, floor)):
                    continue
                kind = floor[0]
                first, second = saying_region(floor, one), saying_region(floor, other)
                self.assertIs(same_sayings(floor, one, other), same_region(kind, first, second))
                self.assertIs(implies(floor, one, other), lies_in(kind, first, second))
                place = unlike(floor, one, other)
                self.assertIs(place is None, parting(kind, first, second) is None)
                if place is not None:
                    self.assertTrue(has(floor, place))
                    self.assertNotEqual(holds(floor, one, place), holds(floor, other, place))

    def test_all_and_none_and_contraries(self):
        for floor in FLOORS + SOME:
            self.assertEqual([decided(floor, ALL), decided(floor, NONE)], [("all",), ("none",)])
            self.assertEqual([saying_region(floor, ALL), saying_region(floor, NONE)], [(floor[1],), ()])
            self.assertEqual([again_true(floor, ALL), again_true(floor, NONE)], [0, None])
            self.assertEqual([true_patches(floor, ALL), true_patches(floor, NONE)], [[()], []])
            for saying in SAYINGS:
                if few(saying, floor):
                    contrary = ("not", saying)
                    self.assertEqual(saying_share(floor, contrary), minus(ONE, saying_share(floor, saying)))
                    self.assertEqual(both_of(floor[0], saying_region(floor, saying), saying_region(floor, contrary)), ())
                    self.assertEqual([implies(floor, NONE, saying), implies(floor, saying, ALL)], [True, True])

    def test_implications_of_the_document(self):
        self.assertIs(implies(BIG, BESIDE, ("many", 1, 2, ALL)), True)
        self.assertIs(implies(BIG, ("many", 1, 2, ALL), BESIDE), False)
        self.assertIs(implies(FLOOR, BESIDE, NONE), True)
        self.assertIsNone(unlike(BIG, BESIDE, BESIDE))

    def test_again_as_patches_come_again(self):
        for floor in [FLOOR, BIG] + FLOORS[2:4] + SOME[:2]:
            for patch, own in patches(floor, 1):
                if compared(floor[0], own, (1, 0, 20)) < 0:
                    continue
                saying = ALL
                for step in near(floor, 1):
                    saying = ("both", saying, ("has", step) if step in patch else ("not", ("has", step)))
                self.assertEqual(again_true(floor, saying), again(floor, 1, patch))
                self.assertEqual(saying_share(floor, saying), share(floor, 1, patch))
        self.assertEqual(self.same_by_name(again_true, BIG, BESIDE), 1)
        self.assertIsNone(self.same_by_name(again_true, FLOOR, BESIDE))

    def test_again_by_hand(self):
        for floor, saying in cases(FLOORS[:4] + SOME[:2]):
            own = saying_share(floor, saying)
            if compared(floor[0], own, (1, 0, 9)) < 0:
                continue
            far = again_true(floor, saying)
            right = true_places(floor, saying, box_of(-9 - far, -9 - far, 9 + far, 9 + far))
            distances = [min(size_by_hand(floor[0], less_places(told, place)) for told in right)
                         for place in places(floor, box_of(-9, -9, 9, 9))]
            self.assertLessEqual(max(distances), far)
            if far and len(distances) > 60 and compared(floor[0], own, (1, 0, 3)) > 0:
                self.assertGreater(max(distances), far - 1)

    def test_moved_floors(self):
        for floor in (BIG, FLOORS[3], SOME[0]):
            for move in (RIGHT, FAR, FORTY):
                other = moved_floor(floor, move)
                for saying in SAYINGS[:20]:
                    if not few(saying, floor):
                        continue
                    kind = floor[0]
                    self.assertEqual(saying_share(other, saying), saying_share(floor, saying))
                    self.assertTrue(same_region(kind, saying_region(other, saying),
                                                moved_region(kind, saying_region(floor, saying), mate_of(kind, move))))
                    self.assertEqual(true_patches(other, saying), true_patches(floor, saying))
                    paper = decided(other, saying)
                    self.assertEqual(paper[0], decided(floor, saying)[0])
                    if paper[0] == "some":
                        x, y = [less_places(place, move) for place in paper[1:]]
                        self.assertEqual([holds(floor, saying, x), holds(floor, saying, y)], [True, False])

    def test_patches_to_the_reach(self):
        self.assertEqual(len(true_patches(BIG, BESIDE)), 2)
        for patch in true_patches(BIG, BESIDE):
            self.assertIn(RIGHT, patch)
        # The reach is told by the words alone, however little they say.
        wide = ("either", ALL, ("has", ((1, 0), (0, 0))))
        self.assertEqual(true_patches(BIG, wide), [patch for patch, _ in patches(BIG, 1)])

    def test_random_sayings(self):
        source = new_source(143)
        for floor in FLOORS[:5] + SOME:
            for _ in range(8):
                saying = random_saying(source, 4)
                if not few(saying, floor):
                    continue
                region = saying_region(floor, saying)
                self.assertTrue(is_region(floor[0], region))
                for place in places(floor, box_of(-3, -3, 3, 3)):
                    self.assertIs(has_point(floor[0], region, mate_of(floor[0], place)), holds(floor, saying, place), saying)

    def test_deep_and_repeated_sayings(self):
        deep = BESIDE
        for _ in range(6):
            deep = ("not", ("some", 0, deep))
        self.assertIs(same_sayings(BIG, deep, BESIDE), True)
        nested = ("many", 1, 2, ("some", 1, ("many", 1, 3, ("not", BESIDE))))
        self.assertEqual(saying_share(BIG, nested), ZERO)
        nested = ("some", 1, ("some", 1, ("some", 1, ("both", BESIDE, ABOVE))))
        self.assertEqual(decided(BIG, nested), ("all",))

    def test_regions_of_few_polygons(self):
        # What is put together again where it was cut is told as it is.
        self.assertEqual(saying_region(BIG, ("either", BESIDE, ("not", BESIDE))), (BIG[1],))
        self.assertEqual(saying_region(BIG, BESIDE), (polygon(2, [at(0, 0), at(1, 0), at(1, 2), at(0, 2)]),))
        self.assertEqual(saying_region(BIG, ("not", BESIDE)), (polygon(2, [at(1, 0), at(2, 0), at(2, 2), at(1, 2)]),))
        step = ((0, 1), (1, 0))
        self.assertEqual(saying_region(BIG, ("has", step)), (met(2, BIG[1], moved(2, BIG[1], mate_of(2, turned_about(step)))),))
        self.assertEqual(saying_region(BIG, ("has", ASLANT)), ())

    def test_lists_are_new(self):
        true_patches(BIG, BESIDE).clear()
        self.assertEqual(len(true_patches(BIG, BESIDE)), 2)

    def test_what_is_told_is_handed_on(self):
        for floor, saying in cases(SOME[:2]):
            paper = decided(floor, saying)
            for place in paper[1:]:
                self.assertIn(patch_of(floor, place, 1), [patch for patch, _ in patches(floor, 1)])
                self.assertEqual(added(place, HERE), place)

    def test_wrong_floors_come_first(self):
        for wrong in WRONG_FLOORS:
            for function in (saying_region, saying_share, decided, again_true, true_patches):
                self.refused(InvalidFloor, wrong, function, wrong, None)
            for function in (same_sayings, implies, unlike):
                self.refused(InvalidFloor, wrong, function, wrong, None, ())

    def test_wrong_sayings(self):
        for wrong in WRONG_SAYINGS:
            for function in (saying_region, saying_share, decided, again_true, true_patches):
                self.refused(InvalidSaying, wrong, function, BIG, wrong)
            for function in (same_sayings, implies, unlike):
                self.refused(InvalidSaying, wrong, function, (5, SQUARE), wrong, None)
                self.refused(InvalidSaying, wrong, function, BIG, ALL, wrong)


if __name__ == "__main__":
    unittest.main()

import unittest
from functools import cache

from common import (
    BIG, FLOOR, FLOORS, HERE, SQUARE, Ways, at, box_of, is_deep_tuple, new_source, patch_by_hand, places_by_hand,
    random_polygon, real, size_by_hand)
from test_floors import FAR, WRONG_FLOORS, WRONG_PLACES
from test_polygons import telling_points
from wholefloors.errors import (
    InvalidFloor, InvalidPair, InvalidPatch, InvalidPlace, InvalidRadius, NoPatch, NotInFloor)
from wholefloors.fields import by, compared, plus, scaled
from wholefloors.floors import added, density, has, mate_of, moved_floor, places, turned_about
from wholefloors.patches import comes, found, how_often, near, part, patch_of, patches, share
from wholefloors.polygons import area, is_in, is_polygon, met, moved, polygon, sum_of

PATCH = (((0, 0), (1, 0)), ((1, 0), (0, 0)), ((1, 0), (1, 0)))
WRONG_RADII = [None, True, False, -1, 1.0, "1", (1,), [1], -10 ** 30]
WRONG_PATCHES = [None, True, 0, "", [], list(PATCH), {}, (HERE,), PATCH + (HERE,), PATCH[::-1], PATCH + PATCH[-1:],
                 (PATCH[0], PATCH[0]), (((2, 0), (0, 0)),), (((0, 0), (0, 1)),), (((0, 0), (-3, 1)),), (None,), ((0, 0),),
                 (list(PATCH[0]),), (((True, 0), (0, 0)),), ((((0, 0), (1, 0))),  ((1, 0), 0)), PATCH[0]]


def random_floors(seed, many, most):
    """Floors with windows of an area from 1 by 4 to a bound."""
    source = new_source(seed)
    made = []
    while len(made) < many:
        kind = source.choice((2, 3, 5))
        window = random_polygon(source, kind)
        if len(window) <= 6 and 0.25 <= real(kind, area(kind, window)) <= most:
            made.append((kind, window))
    return made


class PatchesTest(Ways, unittest.TestCase):
    def test_heads(self):
        self.named(near, "floor", "r")
        self.named(patch_of, "floor", "place", "r")
        for function in (part, share, comes, found):
            self.named(function, "floor", "r", "patch")
        self.named(patches, "floor", "r")
        self.named(how_often, "floor", "r", "step")

    def test_near(self):
        self.assertEqual(len(self.same_by_name(near, BIG, 1)), 8)
        self.assertEqual([near(FLOOR, 0), near(FLOOR, 1), near(FLOOR, 2), near(BIG, 0)], [[], [], [], []])
        for floor in FLOORS:
            for r in (0, 1, 2):
                self.assertEqual(near(floor, r), near_by_met(floor, r))

    def test_near_are_those_of_patches(self):
        for floor in FLOORS:
            steps = {step for patch, _ in patches(floor, 1) for step in patch}
            self.assertEqual(near(floor, 1), sorted(steps))

    def test_patches_of_places_by_hand(self):
        self.assertEqual(patch_of(BIG, HERE, 1), PATCH)
        for floor in FLOORS:
            for r in (0, 1, 2):
                around = places_by_hand(floor, -3 - r, -3 - r, 3 + r, 3 + r)
                for place in places(floor, box_of(-3, -3, 3, 3))[::3]:
                    told = patch_of(floor, place, r)
                    self.assertEqual(told, patch_by_hand(floor[0], around, place, r))
                    self.assertEqual(told, tuple(sorted(told)))
        self.same_by_name(patch_of, BIG, HERE, 1)

    def test_all_patches(self):
        self.assertEqual(len(self.same_by_name(patches, BIG, 1)), 4)
        self.assertEqual(patches(BIG, 1)[-1], (PATCH, (1, 0, 4)))
        self.assertEqual(patches(FLOOR, 1), [((), (1, 0, 1))])
        for floor in FLOORS + random_floors(11, 4, 3):
            self.assertEqual(patches(floor, 0), [((), (1, 0, 1))])
            self.check_patches(floor, patches(floor, 1))

    def check_patches(self, floor, told):
        kind = floor[0]
        self.assertIs(type(told), list)
        self.assertTrue(all(is_deep_tuple(pair) for pair in told))
        self.assertEqual(told, sorted(told))
        self.assertEqual(len({patch for patch, _ in told}), len(told))
        total = (0, 0, 1)
        for _, part_share in told:
            self.assertEqual(compared(kind, part_share, (0, 0, 1)), 1)
            total = plus(total, part_share)
        self.assertEqual(total, (1, 0, 1))
        shares = dict(told)
        inner = places(floor, box_of(-12, -12, 12, 12))
        many = {}
        for place in inner:
            patch = patch_of(floor, place, 1)
            self.assertIn(patch, shares)
            many[patch] = many.get(patch, 0) + 1
        for patch, part_share in told:
            self.assertLess(abs(many.get(patch, 0) - len(inner) * real(kind, part_share)), 40)

    def test_parts(self):
        self.same_by_name(part, BIG, 1, PATCH)
        self.assertEqual(part(BIG, 1, PATCH), (SQUARE,))
        self.assertEqual(part(BIG, 0, ()), (BIG[1],))
        for floor in FLOORS:
            kind, window = floor
            parts = {patch: self.checked_part(floor, patch, told) for patch, told in patches(floor, 1)}
            points = [mate_of(kind, place) for place in places(floor, box_of(-6, -6, 6, 6))] + telling_points(window)
            for point in points + [corner for told in parts.values() for piece in told for corner in piece][::5]:
                within = [patch for patch, told in parts.items() if any(is_in(kind, piece, point) for piece in told)]
                self.assertEqual(within, [patch_by_words(floor, point, 1)] if is_in(kind, window, point) else [])

    def checked_part(self, floor, patch, told):
        kind, window = floor
        pieces = part(floor, 1, patch)
        self.assertIs(type(pieces), tuple)
        self.assertTrue(all(is_polygon(kind, piece) for piece in pieces))
        self.assertEqual(list(pieces), sorted(pieces))
        for k, piece in enumerate(pieces):
            self.assertTrue(all(met(kind, piece, other) is None for other in pieces[:k]))
        self.assertEqual(by(kind, sum_of(kind, pieces), area(kind, window)), told)
        self.assertEqual(self.same_by_name(share, floor, 1, patch), told)
        self.assertIs(self.same_by_name(comes, floor, 1, patch), True)
        place = self.same_by_name(found, floor, 1, patch)
        self.assertTrue(has(floor, place))
        self.assertEqual(patch_of(floor, place, 1), patch)
        return pieces

    def test_patches_that_do_not_come(self):
        for floor in FLOORS:
            steps = near(floor, 1)
            come = [patch for patch, _ in patches(floor, 1)]
            candidates = [(), tuple(steps), tuple(steps[:1]), tuple(steps[1:]), tuple(steps[::2])]
            candidates += [patch[:-1] for patch in come if patch][:5] + [patch[1:] for patch in come if patch][-5:]
            for patch in candidates:
                self.check_coming(floor, patch, patch in come)
            # Within the radius, but no step that ever stands in a patch.
            for step in (((-1, 0), (1, 0)), ((0, 0), (-1, 0))):
                if step not in steps:
                    self.check_coming(floor, (step,), False)

    def check_coming(self, floor, patch, expected):
        self.assertIs(comes(floor, 1, patch), expected)
        self.assertEqual(share(floor, 1, patch) == (0, 0, 1), not expected)
        self.assertEqual(part(floor, 1, patch) == (), not expected)
        if not expected:
            self.refused(NoPatch, patch, found, floor, 1, patch)

    def test_how_often(self):
        self.assertEqual(self.same_by_name(how_often, BIG, 1, ((1, 0), (0, 0))), (1, 0, 2))
        self.assertEqual(how_often(FLOOR, 1, ((1, 0), (0, 0))), (0, 0, 1))
        self.assertEqual(how_often(BIG, 1, ((0, 0), (-1, 0))), (1, 0, 2))
        for floor in FLOORS:
            told = patches(floor, 1)
            for step in near(floor, 1) + [((1, 0), (-1, 0))]:
                total = (0, 0, 1)
                for patch, part_share in told:
                    if step in patch:
                        total = plus(total, part_share)
                self.assertEqual(how_often(floor, 1, step), total)
                self.assertEqual(how_often(floor, 2, step), total)
                self.assertEqual(how_often(floor, 1, turned_about(step)), total)

    def test_floors_moved_far_away_have_the_same_patches(self):
        for floor in FLOORS:
            other = moved_floor(floor, FAR)
            self.assertEqual(patches(other, 1), patches(floor, 1))
            self.assertEqual(near(other, 2), near(floor, 2))
            patch = patches(floor, 1)[0][0]
            place = found(other, 1, patch)
            self.assertEqual(patch_of(other, place, 1), patch)
            self.assertEqual(patch_of(floor, added(place, turned_about(FAR)), 1), patch)

    def test_greater_radii_are_finer(self):
        floor = FLOORS[2]
        finer = patches(floor, 2)
        self.assertEqual(sum_of_shares(finer), (1, 0, 1))
        coarse = {}
        for patch, part_share in finer:
            inner = tuple(step for step in patch if size_by_hand(floor[0], step) <= 1)
            coarse[inner] = plus(coarse.get(inner, (0, 0, 1)), part_share)
        self.assertEqual(sorted(coarse.items()), patches(floor, 1))

    def test_lists_are_new(self):
        near(BIG, 1).clear()
        patches(BIG, 1).clear()
        self.assertEqual([len(near(BIG, 1)), len(patches(BIG, 1))], [8, 4])

    def test_wrong_floors_come_first(self):
        for wrong in WRONG_FLOORS:
            for function in (near, patches):
                self.refused(InvalidFloor, wrong, function, wrong, -1)
            for function in (part, share, comes, found):
                self.refused(InvalidFloor, wrong, function, wrong, -1, None)
            self.refused(InvalidFloor, wrong, patch_of, wrong, None, -1)
            self.refused(InvalidFloor, wrong, how_often, wrong, -1, None)

    def test_wrong_places_come_ahead_of_wrong_radii(self):
        for wrong in WRONG_PLACES:
            self.refused(InvalidPlace, wrong, patch_of, BIG, wrong, -1)
            self.refused(InvalidPlace, wrong, how_often, BIG, -1, wrong)

    def test_wrong_radii(self):
        for wrong in WRONG_RADII:
            for function in (near, patches):
                self.refused(InvalidRadius, wrong, function, BIG, wrong)
            for function in (part, share, comes, found):
                self.refused(InvalidRadius, wrong, function, BIG, wrong, "patch")
            self.refused(InvalidRadius, wrong, patch_of, BIG, ((2, 0), (0, 0)), wrong)
            self.refused(InvalidRadius, wrong, how_often, BIG, wrong, HERE)

    def test_places_of_no_floor(self):
        for place in (((2, 0), (0, 0)), ((0, 0), (-1, 0)), FAR):
            self.refused(NotInFloor, place, patch_of, BIG, place, 1)

    def test_wrong_patches(self):
        for wrong in WRONG_PATCHES:
            for function in (part, share, comes, found):
                self.refused(InvalidPatch, wrong, function, BIG, 1, wrong)
        for function in (part, share, comes, found):
            self.refused(InvalidPatch, PATCH, function, BIG, 0, PATCH)
        # In the kind 2 the root less 1 is within 1, in the kind 3 and 5 too, but w less 3 in the kind 3 alone is not.
        step = ((3, -1), (0, 0))
        self.refused(InvalidPatch, (step,), comes, BIG, 1, (step,))
        self.assertIs(comes((2, BIG[1]), 2, (step,)), False)

    def test_wrong_pairs(self):
        for r, step in ((1, HERE), (0, HERE), (0, ((1, 0), (0, 0))), (1, ((0, 1), (0, 0))), (1, ((0, 0), (-3, 1))),
                        (2, ((0, 0), (0, 2)))):
            self.refused(InvalidPair, (r, step), how_often, BIG, r, step)
        self.assertEqual(how_often(BIG, 1, ((-1, 1), (0, 0))), (0, 0, 1))

    def test_density_of_parts(self):
        # The places with a patch are those of the floor whose window is its part.
        floor = FLOORS[4]
        patch, part_share = patches(floor, 1)[-1]
        total = (0, 0, 1)
        for piece in part(floor, 1, patch):
            total = plus(total, density((floor[0], piece)))
        self.assertEqual(by(floor[0], total, density(floor)), part_share)


@cache
def near_by_met(floor, r):
    """All places within a radius by which the window, moved back by the mate, meets itself."""
    kind, window = floor
    steps = []
    wide = (0, 0, 1)
    for one in window:
        for other in window:
            for p, q in zip(one, other):
                gap = plus(p, scaled(q, -1))
                wide = gap if compared(kind, gap, wide) > 0 else wide
    bound = (kind, polygon(kind, [((s * wide[0], s * wide[1], wide[2]), (t * wide[0], t * wide[1], wide[2]))
                                  for s in (-1, 1) for t in (-1, 1)]))
    for step in places_by_hand(bound, -r, -r, r, r):
        if step != HERE and met(kind, window, moved(kind, window, mate_of(kind, turned_about(step)))):
            steps.append(step)
    return steps


def patch_by_words(floor, point, r):
    """By [7]: the places d for which a point of the window and the mate of d, added, is in the window."""
    kind, window = floor
    mates = [(step, mate_of(kind, step)) for step in near_by_met(floor, r)]
    return tuple(step for step, (x, y) in mates if is_in(kind, window, (plus(point[0], x), plus(point[1], y))))


def sum_of_shares(told):
    total = (0, 0, 1)
    for _, part_share in told:
        total = plus(total, part_share)
    return total


if __name__ == "__main__":
    unittest.main()

import unittest
from math import ceil

from common import BIG, FLOOR, FLOORS, HERE, Ways, at, box_of, less_places, real, size_by_hand
from test_floors import FAR, WRONG_FLOORS
from test_patches import PATCH, WRONG_PATCHES, WRONG_RADII, random_floors
from wholefloors.errors import InvalidFloor, InvalidPatch, InvalidRadius, NoPatch
from wholefloors.floors import added, has, mate_of, moved_floor, places, turned_about
from wholefloors.patches import near, part, patch_of, patches
from wholefloors.polygons import less, moved, polygon
from wholefloors.returns import again, all_again, is_again, lonely


def left_by_words(floor, r, patch, far):
    """What is left of the window less the patch's part, moved by minus the mates of all places within a distance."""
    kind, window = floor
    everywhere = (kind, polygon(kind, [at(-6, -6), at(6, -6), at(6, 6), at(-6, 6)]))
    left = [window]
    pieces = part(floor, r, patch)
    for step in sorted(places(everywhere, box_of(-far, -far, far, far)), key=lambda step: size_by_hand(kind, step)):
        for piece in pieces:
            other = moved(kind, piece, mate_of(kind, turned_about(step)))
            left = [rest for told in left for rest in less(kind, told, other)]
    return left


def around(floor, place, far):
    """The places of a floor that are no further from a place than a distance."""
    back = moved_floor(floor, turned_about(place))
    return [added(told, place) for told in places(back, box_of(-far, -far, far, far))]


class ReturnsTest(Ways, unittest.TestCase):
    def test_heads(self):
        self.named(again, "floor", "r", "patch")
        self.named(is_again, "floor", "r", "patch", "far")
        self.named(lonely, "floor", "r", "patch", "far")
        self.named(all_again, "floor", "r")

    def test_what_comes_everywhere(self):
        for floor in FLOORS:
            self.assertEqual(self.same_by_name(again, floor, 0, ()), 0)
            self.assertEqual(self.same_by_name(all_again, floor, 0), 0)
            self.assertIs(is_again(floor, 0, (), 0), True)
            self.assertIsNone(lonely(floor, 0, (), 0))
        self.assertEqual([again(FLOOR, 1, ()), all_again(FLOOR, 1)], [0, 0])
        self.assertEqual([again(BIG, 1, PATCH), is_again(BIG, 1, PATCH, 0), is_again(BIG, 1, PATCH, 1)], [1, False, True])

    def test_the_least_distance(self):
        for floor in FLOORS + random_floors(12, 3, 2):
            for patch, part_share in patches(floor, 1)[:20]:
                if real(floor[0], part_share) > 0.025:
                    self.checked_again(floor, patch)

    def checked_again(self, floor, patch):
        far = self.same_by_name(again, floor, 1, patch)
        self.assertIs(type(far), int)
        self.assertIs(self.same_by_name(is_again, floor, 1, patch, far), True)
        self.assertIs(is_again(floor, 1, patch, far + 3), True)
        self.assertIsNone(self.same_by_name(lonely, floor, 1, patch, far))
        for nearer in {0, far // 2, far - 1} - {-1, far}:
            self.assertIs(self.same_by_name(is_again, floor, 1, patch, nearer), False)
            place = self.same_by_name(lonely, floor, 1, patch, nearer)
            self.assertTrue(has(floor, place))
            self.assertTrue(all(patch_of(floor, other, 1) != patch for other in around(floor, place, nearer)))
        # No place at all is further from the patch, and some is so far, near enough.
        for place in places(floor, box_of(-5, -5, 5, 5))[::5]:
            self.assertTrue(any(patch_of(floor, other, 1) == patch for other in around(floor, place, far)))
        return far

    def test_what_is_left_by_words(self):
        for floor in FLOORS[1:7]:
            for patch, _ in patches(floor, 1)[:3]:
                far = again(floor, 1, patch)
                if far <= 3:
                    self.assertEqual(left_by_words(floor, 1, patch, far), [])
                    self.assertNotEqual(left_by_words(floor, 1, patch, far - 1) if far else [None], [])

    def test_distances_by_hand(self):
        # The places with a patch, and from each place of a wide box the nearest of them.
        floor = FLOORS[5]
        kind = floor[0]
        inner = places(floor, box_of(-25, -25, 25, 25))
        told = {}
        for place in places(floor, box_of(-40, -40, 40, 40)):
            told.setdefault(patch_of(floor, place, 1), []).append(place)
        for patch in sorted(told)[::2]:
            far = max(min(size_by_hand(kind, less_places(other, place)) for other in told[patch]
                          if abs(other[0][0] - place[0][0]) < 40) for place in inner[::20])
            self.assertLessEqual(ceil(far), again(floor, 1, patch))

    def test_all_patches_together(self):
        for floor in FLOORS[1:3] + FLOORS[4:6]:
            told = [again(floor, 1, patch) for patch, _ in patches(floor, 1)]
            self.assertEqual(self.same_by_name(all_again, floor, 1), max(told))

    def test_floors_moved_far_away(self):
        for floor in FLOORS[:3] + FLOORS[4:6]:
            patch = patches(floor, 1)[-1][0]
            other = moved_floor(floor, FAR)
            far = again(floor, 1, patch)
            self.assertEqual(again(other, 1, patch), far)
            if far:
                place = lonely(other, 1, patch, far - 1)
                self.assertTrue(has(other, place))
                self.assertTrue(all(patch_of(other, told, 1) != patch for told in around(other, place, far - 1)))

    def test_rare_patches_within_small_distances(self):
        floor = max(random_floors(13, 8, 6), key=lambda told: len(patches(told, 1)))
        told = patches(floor, 1)
        rarest = min(told, key=lambda pair: real(floor[0], pair[1]))[0]
        place = lonely(floor, 1, rarest, 2)
        self.assertTrue(all(patch_of(floor, other, 1) != rarest for other in around(floor, place, 2)))

    def test_wrong_floors_come_first(self):
        for wrong in WRONG_FLOORS:
            self.refused(InvalidFloor, wrong, again, wrong, -1, None)
            self.refused(InvalidFloor, wrong, is_again, wrong, -1, None, -1)
            self.refused(InvalidFloor, wrong, lonely, wrong, -1, None, -1)
            self.refused(InvalidFloor, wrong, all_again, wrong, -1)

    def test_wrong_radii_of_patches_come_second(self):
        for wrong in WRONG_RADII:
            self.refused(InvalidRadius, wrong, again, BIG, wrong, None)
            self.refused(InvalidRadius, wrong, is_again, BIG, wrong, None, -7)
            self.refused(InvalidRadius, wrong, lonely, BIG, wrong, None, -7)
            self.refused(InvalidRadius, wrong, all_again, BIG, wrong)

    def test_wrong_patches_come_third(self):
        for wrong in WRONG_PATCHES:
            self.refused(InvalidPatch, wrong, again, BIG, 1, wrong)
            self.refused(InvalidPatch, wrong, is_again, BIG, 1, wrong, -7)
            self.refused(InvalidPatch, wrong, lonely, BIG, 1, wrong, -7)

    def test_patches_that_do_not_come_are_ahead_of_wrong_distances(self):
        for missing in ((), PATCH[:1], (((-1, 0), (1, 0)),)):
            self.refused(NoPatch, missing, again, BIG, 1, missing)
            self.refused(NoPatch, missing, is_again, BIG, 1, missing, -7)
            self.refused(NoPatch, missing, lonely, BIG, 1, missing, None)
        self.assertEqual(near(FLOOR, 1), [])
        self.refused(NoPatch, PATCH, lonely, FLOOR, 1, PATCH, 3)

    def test_wrong_distances(self):
        for wrong in WRONG_RADII:
            self.refused(InvalidRadius, wrong, is_again, BIG, 1, PATCH, wrong)
            self.refused(InvalidRadius, wrong, lonely, BIG, 1, PATCH, wrong)


if __name__ == "__main__":
    unittest.main()

import unittest

from common import BIG, FLOOR, FLOORS, HERE, KINDS, SQUARE, Ways, at, is_deep_tuple, new_source, random_point
from test_floors import FAR, WRONG_FLOORS
from test_patches import WRONG_RADII, random_floors
from wholefloors.alikes import alike, apart, first_unlike, is_one
from wholefloors.errors import InvalidFloor, InvalidPair, InvalidRadius
from wholefloors.fields import compared, minus, number, plus, scaled
from wholefloors.floors import has, mate_of, moved_floor
from wholefloors.patches import patches
from wholefloors.polygons import is_polygon, moved, polygon

# By no place's mate a floor is moved by these.
SHIFTS = [((1, 0, 3), (0, 0, 1)), ((0, 0, 1), (0, 1, 2)), ((1, 1, 7), (5, -2, 11))]


def shifted(floor, point):
    return (floor[0], moved(floor[0], floor[1], point))


def unlike_by_hand(one, other, most):
    for r in range(most + 1):
        differ = {patch for patch, _ in patches(one, r)} ^ {patch for patch, _ in patches(other, r)}
        if differ:
            return (r, min(differ))
    return None


class AlikesTest(Ways, unittest.TestCase):
    def test_heads(self):
        self.named(is_one, "one", "other")
        self.named(alike, "one", "other")
        self.named(first_unlike, "one", "other", "most")
        self.named(apart, "one", "other", "r")

    def test_one_floor(self):
        self.assertIs(self.same_by_name(is_one, FLOOR, (2, tuple(list(SQUARE)))), True)
        for one in FLOORS:
            for other in FLOORS:
                if one[0] == other[0]:
                    self.assertIs(is_one(one, other), one == other)
            for point in SHIFTS + [((10 ** 9, -1, 10 ** 9), (0, 0, 1))]:
                self.assertIs(is_one(one, shifted(one, point)), False)

    def test_moved_windows(self):
        source = new_source(51)
        for floor in FLOORS:
            self.assertEqual(self.same_by_name(alike, floor, floor), ((0, 0, 1), (0, 0, 1)))
            for point in SHIFTS + [random_point(source, floor[0]) for _ in range(4)]:
                other = shifted(floor, point)
                told = alike(floor, other)
                self.assertEqual(told, point)
                self.assertTrue(is_deep_tuple(told))
                self.assertEqual(alike(other, floor), tuple(scaled(p, -1) for p in point))
                self.assertEqual(alike(other, shifted(floor, ((1, 0, 1), (1, 1, 5)))),
                                 (minus((1, 0, 1), point[0]), minus((1, 1, 5), point[1])))
        for place in (((1, 1), (0, 0)), FAR):
            for floor in FLOORS:
                self.assertEqual(alike(floor, moved_floor(floor, place)), mate_of(floor[0], place))

    def test_no_move_but_that_by_nothing_keeps_a_floor(self):
        for floor in FLOORS:
            for place in (((0, 0), (1, 0)), ((0, 1), (0, 0)), ((-1, 1), (3, -2)), FAR):
                other = moved_floor(floor, place)
                self.assertEqual([is_one(floor, other), alike(floor, other)], [False, mate_of(floor[0], place)])
            self.assertIs(is_one(floor, moved_floor(floor, HERE)), True)

    def test_windows_that_are_not_moved(self):
        for one in FLOORS:
            for other in FLOORS:
                if one[0] == other[0] and one != other:
                    self.assertIsNone(alike(one, other))
        # The same corners but for one that is moved otherwise, or one more.
        almost = (2, polygon(2, [at(5, 0), at(6, 0), at(6, 1), ((5, 0, 1), (1001, 0, 1000))]))
        more = (2, polygon(2, [at(5, 0), at(6, 0), at(6, 1), at(5, 1), ((11, 0, 2), (1001, 0, 1000))]))
        fewer = (2, polygon(2, [at(5, 0), at(6, 0), at(6, 1)]))
        for other in (almost, more, fewer):
            self.assertEqual([alike(FLOOR, other), alike(other, FLOOR)], [None, None])

    def test_turned_windows_are_not_moved(self):
        for floor in FLOORS:
            kind, window = floor
            turned = polygon(kind, [tuple(scaled(p, -1) for p in corner) for corner in window])
            moves = [tuple(minus(p, q) for p, q in zip(one, other)) for one in turned for other in window]
            fitting = [move for move in moves if shifted(floor, move) == (kind, turned)]
            self.assertEqual([alike(floor, (kind, turned))], fitting[:1] or [None])

    def test_the_first_unlike_patch(self):
        self.assertEqual(self.same_by_name(first_unlike, FLOOR, BIG, 1), (1, ()))
        self.assertIsNone(first_unlike(FLOOR, BIG, 0))
        for one in FLOORS:
            for other in FLOORS:
                if one[0] == other[0]:
                    for most in (0, 1):
                        told = self.same_by_name(first_unlike, one, other, most)
                        self.assertEqual(told, unlike_by_hand(one, other, most))
                        self.assertTrue(is_deep_tuple(told))

    def test_random_floors(self):
        made = random_floors(52, 8, 1.5)
        for one in made:
            for other in made:
                if one[0] == other[0]:
                    self.assertEqual(first_unlike(one, other, 2), unlike_by_hand(one, other, 2))

    def test_unlike_only_to_a_greater_radius(self):
        narrow = (2, polygon(2, [at(0, 0), ((1, 0, 2), (0, 0, 1)), ((1, 0, 2), (1, 0, 1)), at(0, 1)]))
        r, patch = self.same_by_name(first_unlike, FLOOR, narrow, 20)
        self.assertGreater(r, 1)
        self.assertEqual(unlike_by_hand(FLOOR, narrow, r), (r, patch))
        self.assertEqual([first_unlike(FLOOR, narrow, most) for most in (0, 1, r - 1, r)], [None, None, None, (r, patch)])

    def test_alike_floors_have_the_same_patches(self):
        for floor in FLOORS:
            for point in SHIFTS:
                other = shifted(floor, point)
                self.assertTrue(is_polygon(*other))
                self.assertIsNone(first_unlike(floor, other, 1))
                self.assertEqual(patches(floor, 1), patches(other, 1))
                self.assertEqual(apart(floor, other, 1), (0, 0, 1))
        self.assertIsNone(first_unlike(FLOOR, shifted(FLOOR, SHIFTS[0]), 10 ** 6))

    def test_how_far_apart(self):
        self.assertEqual(self.same_by_name(apart, FLOOR, BIG, 1), (1, 0, 1))
        self.assertEqual(apart(FLOOR, BIG, 0), (0, 0, 1))
        for one in FLOORS:
            for other in FLOORS:
                if one[0] == other[0]:
                    for r in (0, 1):
                        told = self.same_by_name(apart, one, other, r)
                        self.assertEqual(told, self.apart_by_hand(one, other, r))
                        self.assertEqual(apart(other, one, r), told)
                        self.assertGreaterEqual(compared(one[0], told, (0, 0, 1)), 0)
                        self.assertLessEqual(compared(one[0], told, (1, 0, 1)), 0)

    def apart_by_hand(self, one, other, r):
        """1 less the sum of what of their shares all patches have in both."""
        kind = one[0]
        shares, total = dict(patches(other, r)), (1, 0, 1)
        for patch, first in patches(one, r):
            second = shares.get(patch, (0, 0, 1))
            total = minus(total, first if compared(kind, first, second) < 0 else second)
        return total

    def test_apart_is_a_distance(self):
        made = random_floors(53, 12, 2)
        for kind in KINDS:
            floors = [floor for floor in made if floor[0] == kind][:3]
            for one in floors:
                self.assertEqual(apart(one, one, 1), (0, 0, 1))
                for other in floors:
                    for third in floors:
                        around = plus(apart(one, other, 1), apart(other, third, 1))
                        self.assertLessEqual(compared(kind, apart(one, third, 1), around), 0)

    def test_the_same_patches_with_other_shares(self):
        one = (2, polygon(2, [at(0, 0), at(2, 0), at(2, 1), at(0, 1)]))
        other = (2, polygon(2, [at(0, 0), ((5, 0, 3), (0, 0, 1)), ((5, 0, 3), (1, 0, 1)), at(0, 1)]))
        unlike = first_unlike(one, other, 1)
        self.assertEqual(unlike, unlike_by_hand(one, other, 1))
        self.assertNotEqual(apart(one, other, 1), (0, 0, 1))
        self.assertEqual(apart(one, other, 1), self.apart_by_hand(one, other, 1))
        self.assertTrue(has(one, ((0, 0), (0, 0))))

    def test_numbers_in_their_form(self):
        for one in FLOORS:
            for other in FLOORS:
                if one[0] == other[0]:
                    told = apart(one, other, 1)
                    self.assertEqual(told, number(*told))

    def test_wrong_floors_come_first(self):
        for wrong in WRONG_FLOORS:
            for function, rest in ((is_one, ()), (alike, ()), (first_unlike, (-1,)), (apart, (None,))):
                self.refused(InvalidFloor, wrong, function, wrong, "other", *rest)
                self.refused(InvalidFloor, wrong, function, FLOOR, wrong, *rest)

    def test_unlike_kinds_come_second(self):
        for one in FLOORS:
            for other in FLOORS:
                if one[0] != other[0]:
                    for function, rest in ((is_one, ()), (alike, ()), (first_unlike, (-1,)), (apart, (None,))):
                        self.refused(InvalidPair, (one, other), function, one, other, *rest)

    def test_wrong_radii(self):
        for wrong in WRONG_RADII:
            self.refused(InvalidRadius, wrong, first_unlike, FLOOR, BIG, wrong)
            self.refused(InvalidRadius, wrong, first_unlike, FLOOR, FLOOR, wrong)
            self.refused(InvalidRadius, wrong, apart, FLOOR, FLOOR, wrong)


if __name__ == "__main__":
    unittest.main()

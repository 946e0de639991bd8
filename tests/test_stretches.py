import unittest

from common import (
    BIG, FLOOR, FLOORS, HERE, KINDS, NONSENSE, SQUARE, Ways, at, box_of, is_deep_tuple, mate_of_pair, new_source,
    places_by_hand, random_polygon, real)
from test_division import product
from test_floors import FAR, WRONG_FLOORS, WRONG_PLACES
from test_patches import WRONG_RADII
from test_polygons import WRONG_KINDS
from wholefloors.errors import (
    InvalidFloor, InvalidKind, InvalidMatrix, InvalidPair, InvalidPlace, InvalidRadius, InvalidUnit)
from wholefloors.fields import stretch_unit
from wholefloors.floors import added, has, is_floor, is_place, mate_of, moved_floor, places
from wholefloors.polygons import area, is_polygon, moved, polygon
from wholefloors.stretches import (
    behind, is_matrix, is_unit, least_power, lies_within, stretched, taken, taken_floor, undone)

ZERO, ONE = (0, 0), (1, 0)
NOTHING = ((ONE, ZERO), (ZERO, ONE))
# Norm 1 or -1, with a mate above 0; of norm -1 they are below 0 themselves.
FACTORS = {2: [ONE, (3, 2), (3, -2), (-1, -1), (1, -1), (17, 12)], 3: [ONE, (2, 1), (2, -1), (7, -4)],
           5: [ONE, (1, 1), (2, -1), (0, -1), (1, -1), (2, 3)]}
SLANTS = [ZERO, ONE, (-2, 1), (0, -1), (4, 3)]
UNITS = {2: [ONE, (3, 2), (3, -2)], 3: [ONE, (2, 1), (2, -1)], 5: [ONE, (1, 1), (2, -1), (2, 3), (5, -3)]}
WRONG_WHOLES = NONSENSE + [(1,), (1, 0, 1), [1, 0], (True, 0), (1, False), (1.0, 0), ("1", 0), (ONE, ZERO)]
WRONG_MATRICES = WRONG_WHOLES + [
    ONE, (ONE, ONE), ((ONE, ZERO),), ((ONE, ZERO), (ZERO, ONE), (ZERO, ONE)), [(ONE, ZERO), (ZERO, ONE)],
    ([ONE, ZERO], (ZERO, ONE)), ((ONE, ZERO), [ZERO, ONE]), ((ONE, ZERO), (ONE, ONE)), ((ONE, ZERO), ((0, 1), ONE)),
    ((ZERO, ONE), (ONE, ZERO)), (((2, 0), ZERO), (ZERO, ONE)), ((ONE, ZERO), (ZERO, (1, 2))), (((-1, 0), ZERO), (ZERO, ONE)),
    ((ONE, ZERO), (ZERO, (-1, 0))), ((ONE, (0, True)), (ZERO, ONE)), (([1, 0], ZERO), (ZERO, ONE)), ((ONE, ZERO), ([0, 0], ONE)),
    ((ONE, ZERO), (0, ONE)), ((ONE, (0, 0, 1)), (ZERO, ONE)), (((3, -2), ZERO, ZERO), (ZERO, ONE)), ((ONE, None), (ZERO, ONE))]


def matrices(kind):
    """Some matrices with all sorts of factors."""
    factors = FACTORS[kind]
    return [((p, SLANTS[(k + j) % 5]), (ZERO, t)) for k, p in enumerate(factors) for j, t in enumerate(factors) if (k + 2 * j) % 3]


def taken_by_hand(kind, matrix, place):
    (p, q), (_, t) = matrix
    x, y = place
    first, second = product(kind, p, x), product(kind, q, y)
    return ((first[0] + second[0], first[1] + second[1]), product(kind, t, y))


def all_within_by_hand(one, other):
    """Places of the one in a box that are none of the other one."""
    return [place for place in places_by_hand(one, -12, -12, 12, 12) if not has(other, place)]


class StretchesTest(Ways, unittest.TestCase):
    def test_heads(self):
        self.named(is_matrix, "kind", "told")
        self.named(is_unit, "kind", "told")
        self.named(taken, "kind", "matrix", "place")
        self.named(undone, "kind", "matrix")
        self.named(behind, "kind", "one", "other")
        self.named(taken_floor, "floor", "matrix")
        self.named(stretched, "floor", "unit")
        self.named(lies_within, "one", "other")
        self.named(least_power, "one", "other", "most")

    def test_what_is_a_matrix(self):
        for kind in KINDS:
            for matrix in matrices(kind) + [NOTHING]:
                self.assertIs(self.same_by_name(is_matrix, kind, matrix), True, matrix)
            for wrong in WRONG_MATRICES:
                self.assertIs(is_matrix(kind, wrong), False, wrong)

    def test_factors_of_matrices_by_hand(self):
        for kind in KINDS:
            for a in range(-5, 6):
                for b in range(-5, 6):
                    size = product(kind, (a, b), (a + b, -b) if kind == 5 else (a, -b))[0]
                    expected = size in (1, -1) and mate_of_pair(kind, (a, b)) > 0
                    self.assertIs(is_matrix(kind, (((a, b), (7, -7)), (ZERO, ONE))), expected)
                    self.assertIs(is_matrix(kind, ((ONE, (7, -7)), (ZERO, (a, b)))), expected)
                    above = expected and real(kind, (a, b, 1)) > 0
                    self.assertIs(self.same_by_name(is_unit, kind, (a, b)), above)
        self.assertEqual([is_unit(2, told) for told in ((1, 1), (-1, -1), (-1, 0), (1, 0), (3, -2))], [False, False, False, True, True])

    def test_what_is_no_unit(self):
        for kind in KINDS:
            for wrong in WRONG_WHOLES + [ZERO, (2, 0), (0, 1), (1, 1, 1)]:
                self.assertIs(is_unit(kind, wrong), False, wrong)
            for unit in UNITS[kind]:
                self.assertIs(is_unit(kind, unit), True)
            self.assertIs(is_unit(kind, stretch_unit(kind)[:2]), True)
        self.assertEqual([is_unit(kind, (3, 2)) for kind in KINDS], [True, False, False])

    def test_taken_places(self):
        shear = (((3, 2), (1, 0)), ((0, 0), (1, 0)))
        self.assertEqual(self.same_by_name(taken, 2, shear, ((1, 0), (0, 1))), ((3, 3), (0, 1)))
        for kind in KINDS:
            for matrix in matrices(kind):
                for place in (HERE, (ONE, ZERO), ((-3, 5), (2, 7)), FAR):
                    told = taken(kind, matrix, place)
                    self.assertEqual(told, taken_by_hand(kind, matrix, place))
                    self.assertTrue(is_place(told) and is_deep_tuple(told))

    def test_what_undoes(self):
        self.assertEqual(self.same_by_name(undone, 2, (((3, 2), ONE), (ZERO, ONE))), (((3, -2), (-3, 2)), (ZERO, ONE)))
        for kind in KINDS:
            for matrix in matrices(kind):
                back = self.same_by_name(undone, kind, matrix)
                self.assertTrue(is_matrix(kind, back) and is_deep_tuple(back))
                self.assertEqual([behind(kind, back, matrix), behind(kind, matrix, back)], [NOTHING, NOTHING])
                self.assertEqual(taken(kind, back, taken(kind, matrix, FAR)), FAR)
                self.assertEqual(undone(kind, back), matrix)

    def test_one_behind_another(self):
        for kind in KINDS:
            chosen = matrices(kind)
            for one in chosen[::2]:
                for other in chosen:
                    told = self.same_by_name(behind, kind, one, other)
                    self.assertTrue(is_matrix(kind, told) and is_deep_tuple(told))
                    self.assertEqual(taken(kind, told, FAR), taken(kind, one, taken(kind, other, FAR)))
        # The sequence matters.
        one, other = ((ONE, ONE), (ZERO, ONE)), (((3, 2), ZERO), (ZERO, ONE))
        self.assertEqual(behind(2, one, other), (((3, 2), ONE), (ZERO, ONE)))
        self.assertEqual(behind(2, other, one), (((3, 2), (3, 2)), (ZERO, ONE)))

    def test_taken_floors(self):
        self.same_by_name(taken_floor, BIG, (((3, 2), ONE), (ZERO, ONE)))
        for floor in FLOORS:
            self.assertEqual(taken_floor(floor, NOTHING), floor)
            for matrix in matrices(floor[0])[::3]:
                self.check_taken(floor, taken_floor(floor, matrix), matrix)

    def check_taken(self, floor, other, matrix):
        kind, window = floor
        self.assertTrue(is_floor(other) and is_polygon(*other) and is_deep_tuple(other))
        self.assertEqual(len(other[1]), len(window))
        back = undone(kind, matrix)
        for place in places(floor, box_of(-3, -3, 3, 3)):
            self.assertTrue(has(other, taken(kind, matrix, place)))
        # What is taken back from the told floor is a place of the floor; so are those at its corners, or not.
        around = places_by_hand((kind, polygon(kind, [at(-3, -3), at(3, -3), at(3, 3), at(-3, 3)])), -3, -3, 3, 3)
        for place in around[::3]:
            self.assertIs(has(other, place), has(floor, taken(kind, back, place)))
            self.assertIs(has(other, taken(kind, matrix, place)), has(floor, place))
        self.assertEqual(taken_floor(other, back), floor)

    def test_rims_and_corners_of_taken_windows(self):
        # All corners are mates of places here, and which of them the window has is kept.
        for kind in KINDS:
            floor = (kind, polygon(kind, [at(-1, 0), at(0, -1), at(1, -1), at(1, 0), at(0, 1)]))
            rims = [((a, 0), (b, 0)) for a in (-1, 0, 1) for b in (-1, 0, 1)]
            for matrix in matrices(kind):
                other = taken_floor(floor, matrix)
                self.assertEqual([has(other, taken(kind, matrix, place)) for place in rims], [has(floor, place) for place in rims])
                corners = [mate_of(kind, taken(kind, matrix, place)) for place in rims if mate_of(kind, place) in floor[1]]
                self.assertEqual(sorted(other[1]), sorted(corners))

    def test_least_corners_come_first(self):
        # Behind a slant another corner is the least one.
        floor = (2, SQUARE)
        other = taken_floor(floor, ((ONE, (-5, 0)), (ZERO, ONE)))
        self.assertEqual(other[1], (at(-5, 1), at(0, 0), at(1, 0), at(-4, 1)))

    def test_stretched_floors(self):
        self.assertEqual(self.same_by_name(stretched, FLOOR, (3, 2))[1][2], ((3, -2, 1), (3, -2, 1)))
        for floor in FLOORS:
            kind = floor[0]
            for unit in UNITS[kind]:
                other = stretched(floor, unit)
                self.assertEqual(other, taken_floor(floor, ((unit, ZERO), (ZERO, unit))))
                self.check_taken(floor, other, ((unit, ZERO), (ZERO, unit)))
            self.assertEqual(stretched(floor, ONE), floor)

    def test_which_lies_within_which(self):
        self.assertEqual([self.same_by_name(lies_within, FLOOR, BIG), lies_within(BIG, FLOOR)], [True, False])
        for one in FLOORS:
            self.assertIs(lies_within(one, one), True)
            for other in FLOORS:
                if one[0] == other[0]:
                    outside = all_within_by_hand(one, other)
                    self.assertIs(lies_within(one, other), not outside)

    def test_windows_with_rims_in_common(self):
        for kind in KINDS:
            big = (kind, BIG[1])
            for corners in ([at(0, 0), at(1, 0), at(1, 1), at(0, 1)], [at(1, 1), at(2, 1), at(2, 2), at(1, 2)],
                            [at(0, 0), at(2, 2), at(0, 2)], [at(1, 0), at(2, 1), at(1, 2), at(0, 1)], [at(0, 1), at(2, 0), at(2, 2)]):
                inner = (kind, polygon(kind, corners))
                self.assertEqual([lies_within(inner, big), lies_within(big, inner)], [True, False])
                for shift in (((1, 0, 10 ** 40), (0, 0, 1)), ((-1, 0, 10 ** 40), (0, 0, 1)), ((0, 0, 1), (1, 0, 10 ** 40)),
                              ((0, 0, 1), (-1, 0, 10 ** 40))):
                    beside = (kind, moved(kind, inner[1], shift))
                    expected = all(0 <= real(kind, p) <= 2 for corner in beside[1] for p in corner)
                    self.assertIs(lies_within(beside, big), expected)
            beside = (kind, moved(kind, SQUARE, at(1, 0)))
            self.assertEqual([lies_within(beside, (kind, SQUARE)), lies_within((kind, SQUARE), beside)], [False, False])

    def test_random_floors_within_one_another(self):
        source = new_source(71)
        for kind in KINDS:
            for _ in range(8):
                one, other = (kind, random_polygon(source, kind, 2)), (kind, random_polygon(source, kind, 3))
                common = polygon(kind, list(one[1]) + list(other[1]))
                self.assertEqual([lies_within(one, (kind, common)), lies_within(other, (kind, common))], [True, True])
                self.assertIs(lies_within(one, other), common == other[1])
                self.assertIs(lies_within(other, one), common == one[1])

    def test_least_powers(self):
        self.assertEqual(self.same_by_name(least_power, BIG, FLOOR, 3), 1)
        self.assertEqual([least_power(FLOOR, BIG, 0), least_power(BIG, FLOOR, 0)], [0, None])
        far = (2, moved(2, SQUARE, at(-1, 0)))
        self.assertEqual([least_power(BIG, far, 8), least_power(far, far, 8)], [None, 0])
        # 3 less 2 times the root of 2, to the power 3, is a bit above 1 by 200.
        for n, expected in ((1, 0), (2, 1), (5, 1), (6, 2), (33, 2), (34, 3), (197, 3), (198, 4)):
            small = (2, polygon(2, [tuple((p[0], 0, n) if p[0] else p for p in corner) for corner in SQUARE]))
            self.assertEqual(least_power(FLOOR, small, 8), expected)
            self.assertEqual(least_power(FLOOR, small, expected), expected)
            if expected:
                self.assertIsNone(least_power(FLOOR, small, expected - 1))

    def test_least_powers_by_hand(self):
        source = new_source(72)
        for kind in KINDS:
            for _ in range(5):
                one, other = [(kind, random_polygon(source, kind, 3)) for _ in range(2)]
                floor, expected = one, None
                for n in range(5):
                    if lies_within(floor, other):
                        expected = n
                        break
                    floor = stretched(floor, stretch_unit(kind)[:2])
                self.assertEqual(least_power(one, other, 4), expected)

    def test_areas_are_stretched_too(self):
        for floor in FLOORS[:2]:
            self.assertEqual(real(2, area(2, stretched(floor, (3, 2))[1])), real(2, area(*floor)) * real(2, (17, -12, 1)))
            self.assertEqual(taken(2, NOTHING, added(FAR, FAR)), added(FAR, FAR))
            self.assertEqual(stretched(moved_floor(floor, FAR), (3, 2)), moved_floor(stretched(floor, (3, 2)),
                             taken(2, (((3, 2), ZERO), (ZERO, (3, 2))), FAR)))

    def test_wrong_kinds_come_first(self):
        for wrong in WRONG_KINDS:
            self.refused(InvalidKind, wrong, is_matrix, wrong, NOTHING)
            self.refused(InvalidKind, wrong, is_unit, wrong, ONE)
            self.refused(InvalidKind, wrong, taken, wrong, None, None)
            self.refused(InvalidKind, wrong, undone, wrong, None)
            self.refused(InvalidKind, wrong, behind, wrong, None, None)

    def test_wrong_floors_come_ahead_of_the_rest(self):
        for wrong in WRONG_FLOORS:
            self.refused(InvalidFloor, wrong, taken_floor, wrong, None)
            self.refused(InvalidFloor, wrong, stretched, wrong, None)
            self.refused(InvalidFloor, wrong, lies_within, wrong, "other")
            self.refused(InvalidFloor, wrong, lies_within, FLOOR, wrong)
            self.refused(InvalidFloor, wrong, least_power, wrong, "other", -1)
            self.refused(InvalidFloor, wrong, least_power, FLOOR, wrong, -1)

    def test_wrong_matrices(self):
        for wrong in WRONG_MATRICES:
            self.refused(InvalidMatrix, wrong, taken, 2, wrong, None)
            self.refused(InvalidMatrix, wrong, undone, 2, wrong)
            self.refused(InvalidMatrix, wrong, behind, 2, wrong, "other")
            self.refused(InvalidMatrix, wrong, behind, 2, NOTHING, wrong)
            self.refused(InvalidMatrix, wrong, taken_floor, FLOOR, wrong)
        # A matrix of one kind is none of another one.
        self.refused(InvalidMatrix, ((ONE, ZERO), (ZERO, (2, 1))), taken_floor, FLOOR, ((ONE, ZERO), (ZERO, (2, 1))))

    def test_wrong_units(self):
        for floor in FLOORS:
            for wrong in WRONG_WHOLES + [ZERO, (2, 0), (-1, 0), (0, 1), (0, -1), (-3, 2)]:
                self.refused(InvalidUnit, wrong, stretched, floor, wrong)
        self.refused(InvalidUnit, (1, 1), stretched, FLOOR, (1, 1))
        self.refused(InvalidUnit, (2, 1), stretched, FLOOR, (2, 1))

    def test_wrong_places(self):
        for wrong in WRONG_PLACES:
            self.refused(InvalidPlace, wrong, taken, 3, NOTHING, wrong)

    def test_unlike_kinds_and_wrong_radii(self):
        for one in FLOORS:
            for other in FLOORS:
                if one[0] != other[0]:
                    self.refused(InvalidPair, (one, other), lies_within, one, other)
                    self.refused(InvalidPair, (one, other), least_power, one, other, None)
        for wrong in WRONG_RADII:
            self.refused(InvalidRadius, wrong, least_power, FLOOR, BIG, wrong)


if __name__ == "__main__":
    unittest.main()

import unittest

from common import KINDS, NONSENSE, SQUARE, Ways, at, is_deep_tuple, new_source, random_point, random_polygon
from test_polygons import WRONG_KINDS, WRONG_POINTS, WRONG_POLYGONS, telling_points
from wholefloors.errors import InvalidKind, InvalidPoint, InvalidPolygon, InvalidRegion
from wholefloors.fields import compared, number, plus
from wholefloors.polygons import area, cut, is_in, is_polygon, less, met, moved, polygon, sum_of
from wholefloors.regions import (
    both_of, has_point, is_region, joined, less_of, lies_in, moved_region, parting, region_area, region_of, same_region)

RIGHT = moved(2, SQUARE, at(1, 0))
WIDE = polygon(2, [at(0, 0), at(2, 0), at(2, 1), at(0, 1)])
LOWER = (at(0, 0), at(1, 0), at(1, 1))
UPPER = (at(0, 0), at(1, 1), at(0, 1))
WRONG_REGIONS = [wrong for wrong in NONSENSE if wrong != ()] + [(wrong,) for wrong in WRONG_POLYGONS[:20]] + [
    SQUARE, [SQUARE], (SQUARE, SQUARE), (RIGHT, SQUARE), (SQUARE, WIDE), (SQUARE, None), (SQUARE, list(RIGHT)), ((SQUARE, RIGHT),),
    (SQUARE, moved(2, SQUARE, ((1, 0, 2), (0, 0, 1)))), (LOWER, SQUARE), (SQUARE, RIGHT, moved(2, SQUARE, at(2, 0)), WIDE)]


def random_pieces(source, kind, many):
    return [random_polygon(source, kind, 2) for _ in range(many)]


class RegionsTest(Ways, unittest.TestCase):
    def test_heads(self):
        self.named(is_region, "kind", "told")
        self.named(region_of, "kind", "polygons")
        for function in (joined, both_of, less_of, lies_in, same_region, parting):
            self.named(function, "kind", "one", "other")
        self.named(moved_region, "kind", "region", "point")
        self.named(region_area, "kind", "region")
        self.named(has_point, "kind", "region", "point")

    def test_what_is_a_region(self):
        corner = moved(2, SQUARE, at(1, 1))
        for told in ((), (SQUARE,), (SQUARE, RIGHT), tuple(sorted([SQUARE, corner])), (LOWER, UPPER), (WIDE,)):
            for kind in KINDS:
                self.assertIs(self.same_by_name(is_region, kind, told), True)
        for wrong in WRONG_REGIONS:
            self.assertIs(is_region(2, wrong), False, wrong)
        triangle = (at(0, 0), ((3, 0, 2), (3, 0, 2)), ((0, 1, 1), (3, 0, 2)))
        self.assertEqual([is_region(kind, (triangle,)) for kind in KINDS], [True, False, False])

    def test_what_is_ascending_is_so_as_tuples(self):
        # The tuple (1, -1, 1) is greater than (0, 0, 1), though in the kind 2 the number is less.
        below = moved(2, SQUARE, ((1, -2, 1), (0, 0, 1)))
        self.assertEqual(compared(2, below[0][0], (0, 0, 1)), -1)
        self.assertEqual([is_region(2, (SQUARE, below)), is_region(2, (below, SQUARE))], [True, False])

    def test_pieces_with_hardly_a_point_in_common(self):
        n = 10 ** 70
        for shift, expected in ((((n, 1, n), (0, 0, 1)), True), (((n, -1, n), (0, 0, 1)), False),
                                (((n - 1, 0, n), (n - 1, 0, n)), False), (((n - 1, 0, n), (1, 0, 1)), True)):
            for kind in KINDS:
                self.assertIs(is_region(kind, tuple(sorted([SQUARE, moved(kind, SQUARE, shift)]))), expected)

    def checked(self, kind, told):
        """A region that is told is one."""
        self.assertIs(is_region(kind, told), True)
        self.assertTrue(is_deep_tuple(told))
        self.assertEqual(list(told), sorted(told))
        for k, piece in enumerate(told):
            self.assertTrue(is_polygon(kind, piece))
            self.assertTrue(all(met(kind, piece, other) is None for other in told[:k]))
        self.assertEqual(self.same_by_name(region_area, kind, told), sum_of(kind, told))
        return told

    def test_the_region_of_no_polygon(self):
        for kind in KINDS:
            self.assertEqual([region_of(kind, []), region_of(kind, ()), region_area(kind, ())], [(), (), (0, 0, 1)])
            self.assertEqual([joined(kind, (), ()), both_of(kind, (), ()), less_of(kind, (), ())], [(), (), ()])
            self.assertEqual(moved_region(kind, (), at(1, 2)), ())
            self.assertIs(has_point(kind, (), at(0, 0)), False)
            self.assertIs(lies_in(kind, (), ()), True)
            self.assertIs(same_region(kind, (), ()), True)
            self.assertIsNone(parting(kind, (), ()))
            self.assertEqual([joined(kind, (SQUARE,), ()), joined(kind, (), (SQUARE,))], [(SQUARE,), (SQUARE,)])
            self.assertEqual([both_of(kind, (SQUARE,), ()), less_of(kind, (), (SQUARE,))], [(), ()])
            self.assertEqual(less_of(kind, (SQUARE,), ()), (SQUARE,))
            self.assertEqual([lies_in(kind, (), (SQUARE,)), lies_in(kind, (SQUARE,), ())], [True, False])
            self.assertIs(has_point(kind, (SQUARE,), parting(kind, (), (SQUARE,))), True)

    def test_regions_of_polygons(self):
        self.assertEqual(self.same_by_name(region_of, 2, [SQUARE]), (SQUARE,))
        self.assertEqual(region_area(2, region_of(2, [SQUARE, WIDE])), (2, 0, 1))
        self.assertEqual(region_area(2, region_of(2, (SQUARE, SQUARE, SQUARE))), (1, 0, 1))
        self.assertTrue(same_region(2, region_of(2, [SQUARE, RIGHT]), (WIDE,)))
        source = new_source(41)
        for kind in KINDS:
            for many in (2, 3, 5, 8):
                pieces = random_pieces(source, kind, many)
                pieces.append(pieces[0])
                kept = list(pieces)
                told = self.checked(kind, self.same_by_name(region_of, kind, pieces))
                self.assertEqual(pieces, kept)
                self.assertTrue(same_region(kind, told, region_of(kind, tuple(pieces[::-1]))))
                for point in self.points(source, kind, pieces[:4] + list(told[:6])):
                    self.assertIs(self.same_by_name(has_point, kind, told, point), any(is_in(kind, piece, point) for piece in pieces))

    def points(self, source, kind, pieces):
        """Corners, points of rims and others, at which a region may err."""
        return [p for piece in pieces for p in telling_points(piece)] + [random_point(source, kind, 2) for _ in range(5)]

    def test_points_on_rims_and_at_corners(self):
        half = (1, 0, 2)
        for region in ((SQUARE, RIGHT), (WIDE,)):
            for x, y, expected in (((0, 0, 1), (0, 0, 1), True), ((1, 0, 1), (0, 0, 1), True), ((2, 0, 1), (0, 0, 1), False),
                                   ((1, 0, 1), half, True), ((0, 0, 1), half, True), ((2, 0, 1), half, False),
                                   ((1, 0, 1), (1, 0, 1), False), (half, (0, 0, 1), True), (half, (1, 0, 1), False)):
                self.assertIs(has_point(2, region, (x, y)), expected)
        # Each point of the diagonal is in just one of two halves.
        self.assertEqual([has_point(2, (piece,), (half, half)) for piece in (LOWER, UPPER)], [True, False])

    def test_joined_common_and_rest(self):
        source = new_source(42)
        for kind in KINDS:
            for many in (1, 2, 4):
                one = region_of(kind, random_pieces(source, kind, many))
                other = region_of(kind, random_pieces(source, kind, 3))
                self.check_all_of(source, kind, one, other)

    def check_all_of(self, source, kind, one, other):
        either = self.checked(kind, self.same_by_name(joined, kind, one, other))
        both = self.checked(kind, self.same_by_name(both_of, kind, one, other))
        rest = self.checked(kind, self.same_by_name(less_of, kind, one, other))
        areas = [region_area(kind, told) for told in (one, other, either, both, rest)]
        self.assertEqual(plus(areas[0], areas[1]), plus(areas[2], areas[3]))
        self.assertEqual(plus(areas[3], areas[4]), areas[0])
        for point in self.points(source, kind, (one + other + both + rest)[:12]):
            first, second = has_point(kind, one, point), has_point(kind, other, point)
            self.assertEqual([has_point(kind, told, point) for told in (either, both, rest)],
                             [first or second, first and second, first and not second])
        self.assertTrue(same_region(kind, both_of(kind, other, one), both))
        self.assertTrue(same_region(kind, joined(kind, other, one), either))
        self.assertTrue(same_region(kind, joined(kind, rest, other), either))
        self.assertTrue(same_region(kind, less_of(kind, either, rest), other))
        self.assertTrue(same_region(kind, joined(kind, rest, both), one))

    def test_side_by_side(self):
        self.assertEqual(self.same_by_name(both_of, 2, (SQUARE,), (RIGHT,)), ())
        self.assertEqual(region_area(2, joined(2, (SQUARE,), (RIGHT,))), (2, 0, 1))
        self.assertEqual(less_of(2, (SQUARE,), (RIGHT,)), (SQUARE,))
        self.assertEqual(less_of(2, (WIDE,), (RIGHT,)), (SQUARE,))
        self.assertEqual(both_of(2, (WIDE,), (SQUARE, RIGHT)), (SQUARE, RIGHT))

    def test_many_steps_behind_one_another(self):
        source = new_source(43)
        for kind in KINDS:
            told = region_of(kind, random_pieces(source, kind, 3))
            for k in range(4):
                other = region_of(kind, random_pieces(source, kind, 2))
                told = (joined, less_of, both_of)[k % 3](kind, joined(kind, told, other), moved_region(kind, told, at(0, 1)))
                self.checked(kind, told)
            self.assertEqual(len(both_of(kind, told, told)), len(told))

    def test_moved_regions(self):
        point = ((0, 1, 2), (-1, 0, 3))
        source = new_source(44)
        for kind in KINDS:
            region = region_of(kind, random_pieces(source, kind, 4))
            told = self.checked(kind, self.same_by_name(moved_region, kind, region, point))
            self.assertEqual(sorted(told), sorted(moved(kind, piece, point) for piece in region))
            self.assertEqual(moved_region(kind, told, ((0, -1, 2), (1, 0, 3))), region)
        # Moved by a half, what begins at 0 and at a half comes in the other sequence, as tuples are compared.
        above = moved(2, SQUARE, ((1, 0, 2), (1, 0, 1)))
        half = ((1, 0, 2), (0, 0, 1))
        self.assertEqual(moved_region(2, (SQUARE, above), half), (moved(2, above, half), moved(2, SQUARE, half)))

    def test_which_lies_in_which(self):
        self.assertIs(self.same_by_name(lies_in, 2, (SQUARE,), (WIDE,)), True)
        self.assertIs(lies_in(2, (WIDE,), (SQUARE,)), False)
        self.assertIs(lies_in(2, (WIDE,), (SQUARE, RIGHT)), True)
        self.assertIs(lies_in(2, (SQUARE,), (RIGHT,)), False)
        tiny = moved(2, SQUARE, ((1, 0, 10 ** 60), (0, 0, 1)))
        self.assertEqual([lies_in(2, (tiny,), (SQUARE,)), lies_in(2, (tiny,), (WIDE,))], [False, True])
        source = new_source(45)
        for kind in KINDS:
            one, other = [region_of(kind, random_pieces(source, kind, 3)) for _ in range(2)]
            for told in (both_of(kind, one, other), less_of(kind, one, other)):
                self.assertIs(lies_in(kind, told, one), True)
                self.assertIs(lies_in(kind, one, told), told == one)
            self.assertIs(lies_in(kind, one, joined(kind, one, other)), True)

    def test_the_same_region_cut_otherwise(self):
        self.assertIs(self.same_by_name(same_region, 2, (SQUARE, RIGHT), (WIDE,)), True)
        self.assertIs(same_region(2, (LOWER, UPPER), (SQUARE,)), True)
        self.assertIs(same_region(2, (LOWER,), (UPPER,)), False)
        source = new_source(46)
        for kind in KINDS:
            whole = random_polygon(source, kind, 2)
            cuts = []
            for _ in range(2):
                line = [random_point(source, kind, 1), random_point(source, kind, 1)]
                cuts.append(tuple(sorted(piece for piece in cut(kind, whole, *line) if piece)))
            self.assertIs(same_region(kind, *cuts), True)
            self.assertIs(same_region(kind, (whole,), cuts[0]), True)
            self.assertIsNone(self.same_by_name(parting, kind, *cuts))
            hole = less(kind, whole, met(kind, whole, moved(kind, whole, ((1, 0, 5), (1, 0, 7)))))
            self.check_parting(kind, cuts[0], hole)

    def check_parting(self, kind, one, other):
        point = self.same_by_name(parting, kind, one, other)
        self.assertIs(same_region(kind, one, other), point is None)
        if point is not None:
            self.assertTrue(is_deep_tuple(point))
            self.assertNotEqual(has_point(kind, one, point), has_point(kind, other, point))

    def test_points_that_part(self):
        self.check_parting(2, (SQUARE,), (WIDE,))
        self.check_parting(2, (WIDE,), (SQUARE,))
        self.check_parting(2, (SQUARE,), (moved(2, SQUARE, ((1, 0, 10 ** 60), (0, 0, 1))),))
        source = new_source(47)
        for kind in KINDS:
            for _ in range(8):
                one, other = [region_of(kind, random_pieces(source, kind, 2)) for _ in range(2)]
                self.check_parting(kind, one, other)
                self.check_parting(kind, one, joined(kind, one, other))
                self.check_parting(kind, joined(kind, one, other), joined(kind, other, one))

    def test_twelve_polygons_and_denominators_of_any_size(self):
        n = 10 ** 40 + 9
        for kind in KINDS:
            row = tuple(sorted(moved(kind, SQUARE, (number(k * n + k, 0, n), number(k, k, n))) for k in range(12)))
            self.assertIs(is_region(kind, row), True)
            self.assertEqual(region_area(kind, row), (12, 0, 1))
            other = moved_region(kind, row, ((1, 0, n + 2), (0, 1, n - 2)))
            both = self.checked(kind, both_of(kind, row, other))
            rest = self.checked(kind, less_of(kind, row, other))
            self.assertEqual(plus(region_area(kind, both), region_area(kind, rest)), (12, 0, 1))
            self.check_parting(kind, row, other)

    def test_wrong_kinds_come_first(self):
        for wrong in WRONG_KINDS:
            self.refused(InvalidKind, wrong, is_region, wrong, (SQUARE,))
            self.refused(InvalidKind, wrong, region_of, wrong, [None])
            self.refused(InvalidKind, wrong, region_area, wrong, None)
            for function in (joined, both_of, less_of, lies_in, same_region, parting, moved_region, has_point):
                self.refused(InvalidKind, wrong, function, wrong, None, None)

    def test_wrong_polygons(self):
        for wrong in WRONG_POLYGONS:
            self.refused(InvalidPolygon, wrong, region_of, 2, [SQUARE, wrong, "third"])
            self.refused(InvalidPolygon, wrong, region_of, 2, (wrong, None))
        for wrong in (None, True, 7, "text", {SQUARE: 1}):
            self.refused(InvalidPolygon, wrong, region_of, 2, wrong)

    def test_wrong_regions(self):
        for wrong in WRONG_REGIONS:
            for function in (joined, both_of, less_of, lies_in, same_region, parting):
                self.refused(InvalidRegion, wrong, function, 2, wrong, "other")
                self.refused(InvalidRegion, wrong, function, 2, (SQUARE,), wrong)
                self.refused(InvalidRegion, wrong, function, 2, (), wrong)
            self.refused(InvalidRegion, wrong, region_area, 2, wrong)
            self.refused(InvalidRegion, wrong, moved_region, 2, wrong, None)
            self.refused(InvalidRegion, wrong, has_point, 2, wrong, None)

    def test_wrong_points(self):
        for wrong in WRONG_POINTS:
            for region in ((), (SQUARE,)):
                self.refused(InvalidPoint, wrong, moved_region, 2, region, wrong)
                self.refused(InvalidPoint, wrong, has_point, 2, region, wrong)

    def test_areas_are_those_of_polygons(self):
        self.assertEqual(region_area(2, (LOWER, UPPER)), area(2, SQUARE))


if __name__ == "__main__":
    unittest.main()

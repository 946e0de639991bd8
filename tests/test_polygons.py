import unittest
from fractions import Fraction

from common import (
    KINDS, NONSENSE, SQUARE, Ways, at, is_deep_tuple, is_inner, is_within, new_source, random_number, random_point,
    random_polygon, real, real_point)
from wholefloors.errors import InvalidKind, InvalidPair, InvalidPoint, InvalidPolygon
from wholefloors.fields import compared, minus, number, plus, scaled, times
from wholefloors.polygons import area, cut, is_in, is_polygon, less, met, moved, polygon, sum_of

STAR = (at(-3, 0), at(2, -3), at(1, 4), at(-2, -3), at(3, 1))
WRONG_POLYGONS = NONSENSE + [
    (at(0, 0), at(1, 0)),
    (at(0, 0), at(1, 0), at(2, 0)),
    (at(0, 0), at(1, 0), at(2, 0), at(0, 1)),
    (at(0, 0), at(2, 0), at(2, 1), at(2, 2)),
    (at(0, 0), at(2, 0), at(1, 1), at(0, 2)),
    (at(0, 0), at(0, 1), at(1, 0)),
    (at(1, 0), at(0, 1), at(0, 0)),
    (at(0, 0), at(1, 0), at(1, 1), at(0, 0)),
    (at(0, 0), at(1, 0), at(0, 0)),
    (at(0, 0), at(0, 0), at(1, 0), at(0, 1)),
    (at(0, 0), at(1, 0), at(1, 0), at(0, 1)),
    (at(0, 0), at(1, 0), at(0, 1), at(0, 1)),
    (at(0, 0), at(4, 0), at(1, 1), at(0, 4)),
    (at(0, 0), at(1, 0), at(1, 1), at(0, 1), at(0, 0), at(1, 0), at(1, 1), at(0, 1)),
    STAR,
    list(SQUARE),
    (list(at(0, 0)), at(1, 0), at(0, 1)),
    (((0, 0, 2), (0, 0, 1)), at(1, 0), at(0, 1)),
    (at(False, 0), at(1, 0), at(0, 1)),
    (at(0, 0), at(1, 0), (at(0, 1), 0)),
    (at(0, 0), at(1, 0), None),
]
WRONG_POINTS = NONSENSE + [((0, 0, 1),), ((0, 0, 1), (0, 0, 1), (0, 0, 1)), [(0, 0, 1), (0, 0, 1)], (0, 0, 1),
                           ([0, 0, 1], (0, 0, 1)), ((0, 0, 1), (2, 2, 2)), ((True, 0, 1), (0, 0, 1))]
WRONG_KINDS = [None, True, 4, "2", 2.0]


def middle(one, other):
    """The point between two points."""
    return tuple(scaled_half(plus(p, q)) for p, q in zip(one, other))


def scaled_half(p):
    a, b, n = p
    return number(a, b, 2 * n)


def telling_points(told):
    """Corners and points of the rims, at which a polygon may err."""
    return list(told) + [middle(one, other) for one, other in zip(told, told[1:] + told[:1])]


def turn(kind, one, other, point):
    """Twice the area of a triangle, above 0 if it goes round to the left."""
    first = times(kind, minus(other[0], one[0]), minus(point[1], one[1]))
    return minus(first, times(kind, minus(other[1], one[1]), minus(point[0], one[0])))


class PolygonsTest(Ways, unittest.TestCase):
    def test_heads(self):
        self.named(is_polygon, "kind", "told")
        self.named(polygon, "kind", "points")
        self.named(area, "kind", "polygon")
        self.named(is_in, "kind", "polygon", "point")
        self.named(moved, "kind", "polygon", "point")
        self.named(cut, "kind", "polygon", "one", "other")
        self.named(met, "kind", "one", "other")
        self.named(less, "kind", "one", "other")
        self.named(sum_of, "kind", "polygons")

    def test_what_is_a_polygon(self):
        for kind in KINDS:
            self.assertIs(self.same_by_name(is_polygon, kind, SQUARE), True)
            for told in WRONG_POLYGONS:
                self.assertIs(is_polygon(kind, told), False, told)
        # In a kind w may lie to the one side, in another one to the other.
        triangle = (at(0, 0), ((3, 0, 2), (3, 0, 2)), ((0, 1, 1), (3, 0, 2)))
        self.assertEqual([is_polygon(kind, triangle) for kind in KINDS], [True, False, False])

    def test_what_goes_round_otherwise_is_none(self):
        source = new_source(3)
        for kind in KINDS:
            for _ in range(20):
                told = random_polygon(source, kind)
                self.assertTrue(is_polygon(kind, told))
                self.assertFalse(is_polygon(kind, told[::-1]))
                for k in range(1, len(told)):
                    self.assertFalse(is_polygon(kind, told[k:] + told[:k]))
                self.assertFalse(is_polygon(kind, told + (middle(told[0], told[-1]),)))
                self.assertFalse(is_polygon(kind, told[:2] + told[1:]))
                self.assertFalse(is_polygon(kind, told + told))
        spiral = tuple(polygon(2, [at(-5, 0), at(0, -5), at(5, 0), at(0, 5)]))
        self.assertFalse(is_polygon(2, spiral + (at(-4, 0), at(0, -4), at(4, 0), at(0, 4))))

    def test_polygon_of_points(self):
        points = [at(2, 2), at(0, 0), at(1, 0), at(2, 0), at(1, 1), at(0, 2), at(0, 0), at(2, 2), at(1, 2), at(2, 1)]
        expected = (at(0, 0), at(2, 0), at(2, 2), at(0, 2))
        self.assertEqual(self.same_by_name(polygon, 2, points), expected)
        self.assertEqual(polygon(2, tuple(points)), expected)
        self.assertEqual(polygon(5, points[::-1]), expected)
        self.assertEqual(len(points), 10)
        # Which of two points in one line with the first one is the outermost hangs on the kind.
        near = [at(0, 0), ((0, 1, 1), (0, 0, 1)), ((8, 0, 5), (0, 0, 1)), at(0, 1)]
        self.assertEqual([polygon(kind, near)[1][0] for kind in KINDS], [(8, 0, 5), (0, 1, 1), (0, 1, 1)])

    def test_polygon_has_all_points(self):
        source = new_source(4)
        for kind in KINDS:
            for _ in range(40):
                points = [random_point(source, kind) for _ in range(source.randint(4, 12))]
                told = polygon(kind, points)
                self.assertTrue(is_polygon(kind, told))
                self.assertLessEqual(set(told), set(points))
                for k, one in enumerate(told):
                    other = told[(k + 1) % len(told)]
                    for point in points:
                        self.assertGreaterEqual(compared(kind, turn(kind, one, other, point), (0, 0, 1)), 0)

    def test_points_in_one_line(self):
        for kind in KINDS:
            for points in ([], (), [at(0, 0)], [at(0, 0), at(1, 0)], [at(0, 0)] * 5, [at(0, 0), at(1, 1)] * 3,
                           [at(0, 0), ((0, 1, 1), (0, 1, 1)), at(2, 2), ((1, 1, 3), (1, 1, 3))],
                           (at(0, 3), at(0, -1), at(0, 2)), [at(5, 0), at(1, 0), at(3, 0), at(-2, 0)]):
                self.refused(InvalidPair, points, polygon, kind, points)
        for wrong in (None, True, 7, SQUARE[0][0][0], "text", {SQUARE[0]: 1}):
            self.refused(InvalidPair, wrong, polygon, 2, wrong)
        almost = [at(0, 0), at(1, 0), ((2, 0, 1), (577, -408, 1))]
        self.assertEqual(len(polygon(2, almost)), 3)

    def test_areas(self):
        self.assertEqual(self.same_by_name(area, 2, SQUARE), (1, 0, 1))
        self.assertEqual(area(5, polygon(5, [at(0, 0), ((0, 1, 1), (0, 0, 1)), ((0, 0, 1), (0, 1, 1))])), (1, 1, 2))
        source = new_source(5)
        for kind in KINDS:
            for _ in range(20):
                told = random_polygon(source, kind)
                total = (0, 0, 1)
                for one, other in zip(told[1:], told[2:]):
                    total = plus(total, turn(kind, told[0], one, other))
                self.assertEqual(scaled(area(kind, told), 2), total)

    def test_which_rims_are_in(self):
        for point, expected in ((at(0, 0), True), (at(1, 0), False), (at(0, 1), False), (at(1, 1), False)):
            self.assertIs(self.same_by_name(is_in, 2, SQUARE, point), expected)
        half = (1, 0, 2)
        zero, one = (0, 0, 1), (1, 0, 1)
        for point, expected in (((zero, half), True), ((half, zero), True), ((one, half), False), ((half, one), False)):
            self.assertIs(is_in(2, SQUARE, point), expected)
        # Going down to a corner and up again: the lowest corner has nothing to its right.
        lozenge = polygon(2, [at(0, -1), at(1, 0), at(0, 1), at(-1, 0)])
        self.assertEqual([is_in(2, lozenge, point) for point in lozenge], [True, False, False, False])
        slope = polygon(2, [at(0, 0), at(2, -1), at(2, 1)])
        self.assertEqual([is_in(2, slope, point) for point in slope], [True, False, False])
        hanging = polygon(2, [at(0, 0), at(1, -2), at(1, -1)])
        self.assertEqual([is_in(2, hanging, point) for point in hanging], [False, False, False])

    def test_points_of_polygons_by_the_words_of_the_document(self):
        source = new_source(6)
        for kind in KINDS:
            for _ in range(30):
                told = random_polygon(source, kind)
                points = telling_points(told) + [random_point(source, kind) for _ in range(6)]
                for point in points:
                    self.assertIs(is_in(kind, told, point), is_within(kind, told, real_point(kind, point)))

    def test_points_very_near_to_rims(self):
        # A power of the root of 2 less 1, with 150 digits, is above 0, but hardly.
        p = (1, 0, 1)
        for _ in range(400):
            p = times(2, p, (-1, 1, 1))
        tiny = p
        below = scaled(tiny, -1)
        half = (1, 0, 2)
        self.assertIs(is_in(2, SQUARE, (tiny, half)), True)
        self.assertIs(is_in(2, SQUARE, (below, half)), False)
        self.assertIs(is_in(2, SQUARE, (plus((1, 0, 1), below), half)), True)
        self.assertIs(is_in(2, SQUARE, (plus((1, 0, 1), tiny), half)), False)
        left, right = cut(2, SQUARE, (tiny, (0, 0, 1)), (tiny, (1, 0, 1)))
        self.assertEqual([area(2, left), area(2, right)], [tiny, minus((1, 0, 1), tiny)])
        self.assertEqual(cut(2, SQUARE, (below, (0, 0, 1)), (below, (1, 0, 1))), (None, SQUARE))

    def test_moved(self):
        point = ((0, 1, 2), (-1, 0, 3))
        expected = tuple((plus(x, point[0]), plus(y, point[1])) for x, y in SQUARE)
        self.assertEqual(self.same_by_name(moved, 3, SQUARE, point), expected)
        self.assertEqual(moved(3, expected, ((0, -1, 2), (1, 0, 3))), SQUARE)

    def test_cut_keeps_each_point_just_once(self):
        source = new_source(7)
        for kind in KINDS:
            for _ in range(40):
                told = random_polygon(source, kind)
                rims = telling_points(told)
                one, other = source.choice([source.sample(rims, 2), [random_point(source, kind), source.choice(rims)],
                                            [random_point(source, kind), random_point(source, kind)]])
                if one == other:
                    continue
                self.check_cut(kind, told, one, other, rims + [one, other, middle(one, other)])

    def check_cut(self, kind, told, one, other, points):
        left, right = self.same_by_name(cut, kind, told, one, other)
        pieces = [piece for piece in (left, right) if piece]
        self.assertTrue(all(is_polygon(kind, piece) for piece in pieces))
        self.assertEqual(sum_of(kind, pieces), area(kind, told))
        for corner in left or ():
            self.assertGreaterEqual(compared(kind, turn(kind, one, other, corner), (0, 0, 1)), 0)
        for corner in right or ():
            self.assertLessEqual(compared(kind, turn(kind, one, other, corner), (0, 0, 1)), 0)
        self.assertEqual(cut(kind, told, other, one), (right, left))
        points = points + [corner for piece in pieces for corner in telling_points(piece)]
        for point in points:
            self.assertEqual(sum(is_in(kind, piece, point) for piece in pieces), is_in(kind, told, point))

    def test_lines_through_corners_and_along_edges(self):
        self.assertEqual(cut(2, SQUARE, at(0, 0), at(1, 0)), (SQUARE, None))
        self.assertEqual(cut(2, SQUARE, at(1, 0), at(0, 0)), (None, SQUARE))
        self.assertEqual(cut(2, SQUARE, at(7, 1), at(5, 1)), (SQUARE, None))
        self.assertEqual(cut(2, SQUARE, at(0, 1), at(1, 2)), (None, SQUARE))
        self.assertEqual(cut(2, SQUARE, at(-1, 0), at(-1, -5)), (SQUARE, None))
        upper = (at(0, 0), at(1, 1), at(0, 1))
        lower = (at(0, 0), at(1, 0), at(1, 1))
        self.assertEqual(cut(2, SQUARE, at(0, 0), at(1, 1)), (upper, lower))
        self.assertEqual(cut(2, SQUARE, at(-1, -1), at(-2, -2)), (lower, upper))
        self.assertEqual(cut(2, SQUARE, at(0, 0), at(2, 1)),
                         ((at(0, 0), ((1, 0, 1), (1, 0, 2)), at(1, 1), at(0, 1)),
                          (at(0, 0), at(1, 0), ((1, 0, 1), (1, 0, 2)))))

    def test_common_parts_and_rests(self):
        source = new_source(8)
        for kind in KINDS:
            for _ in range(30):
                one, other = random_polygon(source, kind, 2), random_polygon(source, kind, 2)
                both = self.same_by_name(met, kind, one, other)
                rest = self.same_by_name(less, kind, one, other)
                self.assertEqual(met(kind, other, one), both)
                self.check_rest(kind, (one, other), both, rest)

    def check_rest(self, kind, pair, both, rest):
        one, other = pair
        self.assertIs(type(rest), tuple)
        self.assertEqual(list(rest), sorted(rest))
        pieces = list(rest) + ([both] if both else [])
        self.assertTrue(all(is_polygon(kind, piece) for piece in pieces))
        self.assertEqual(sum_of(kind, pieces), area(kind, one))
        for point in [p for piece in pieces + [one, other] for p in telling_points(piece)]:
            in_one, in_other = is_in(kind, one, point), is_in(kind, other, point)
            self.assertEqual(both is not None and is_in(kind, both, point), in_one and in_other)
            self.assertEqual(sum(is_in(kind, piece, point) for piece in rest), in_one and not in_other)

    def test_what_touches_has_nothing_in_common(self):
        beside = moved(2, SQUARE, at(1, 0))
        self.assertEqual([met(2, SQUARE, beside), less(2, SQUARE, beside)], [None, (SQUARE,)])
        corner = moved(2, SQUARE, at(1, 1))
        self.assertEqual([met(2, SQUARE, corner), less(2, SQUARE, corner)], [None, (SQUARE,)])
        away = moved(2, SQUARE, at(3, 0))
        self.assertEqual([met(2, SQUARE, away), less(2, SQUARE, away)], [None, (SQUARE,)])
        self.assertEqual([met(2, SQUARE, SQUARE), less(2, SQUARE, SQUARE)], [SQUARE, ()])
        wide = polygon(2, [at(0, 0), at(2, 0), at(2, 2), at(0, 2)])
        self.assertEqual([met(2, SQUARE, wide), less(2, SQUARE, wide)], [SQUARE, ()])
        self.assertEqual(sum_of(2, less(2, wide, SQUARE)), (3, 0, 1))

    def test_sums(self):
        self.assertEqual(self.same_by_name(sum_of, 2, [SQUARE, SQUARE]), (2, 0, 1))
        self.assertEqual(sum_of(2, (SQUARE,)), (1, 0, 1))
        self.assertEqual([sum_of(2, []), sum_of(2, ())], [(0, 0, 1), (0, 0, 1)])

    def test_twelve_corners(self):
        round_one = [at(4, 0), at(4, 1), at(3, 3), at(1, 4), at(0, 4), at(-2, 3), at(-3, 1), at(-3, 0), at(-2, -2),
                     at(0, -3), at(1, -3), at(3, -2)]
        told = polygon(5, round_one)
        self.assertEqual(len(told), 12)
        self.assertTrue(is_inner(5, told, (Fraction(0), Fraction(0))))
        turned = tuple(sorted(round_one))
        self.assertFalse(is_polygon(5, turned))
        left, right = cut(5, told, ((0, 0, 1), (0, 1, 7)), ((0, 1, 1), (5, 0, 3)))
        self.assertEqual(sum_of(5, [left, right]), area(5, told))

    def test_denominators_of_any_size(self):
        n = 10 ** 60 + 7
        told = polygon(3, [((1, 0, n), (0, 1, n)), at(1, 0), ((0, 1, n - 1), (1, 1, n + 1)), at(0, 1)])
        self.assertTrue(is_polygon(3, told))
        left, right = cut(3, told, at(0, 0), ((1, 1, n), (1, 0, n)))
        self.assertEqual(sum_of(3, [piece for piece in (left, right) if piece]), area(3, told))

    def test_forms_of_what_is_returned(self):
        big = polygon(2, [at(0, 0), at(2, 0), at(2, 2), at(0, 2)])
        for value in (SQUARE, cut(2, SQUARE, at(0, 0), at(1, 2)), met(2, big, SQUARE), less(2, big, SQUARE),
                      moved(2, SQUARE, at(1, 1)), area(2, SQUARE), sum_of(2, [SQUARE]), less(2, SQUARE, SQUARE)):
            self.assertTrue(is_deep_tuple(value), value)

    def test_wrong_kinds_come_first(self):
        for kind in WRONG_KINDS:
            for function, rest in ((is_polygon, (SQUARE,)), (polygon, ([at(0, 0)],)), (polygon, ([None],)),
                                   (area, (None,)), (is_in, (None, None)), (moved, (SQUARE, None)),
                                   (cut, (None, None, None)), (cut, (SQUARE, at(0, 0), at(0, 0))),
                                   (met, (None, None)), (less, (SQUARE, None)), (sum_of, ([None],))):
                self.refused(InvalidKind, kind, function, kind, *rest)

    def test_wrong_polygons(self):
        for wrong in WRONG_POLYGONS:
            self.refused(InvalidPolygon, wrong, area, 2, wrong)
            self.refused(InvalidPolygon, wrong, is_in, 2, wrong, None)
            self.refused(InvalidPolygon, wrong, moved, 2, wrong, None)
            self.refused(InvalidPolygon, wrong, cut, 2, wrong, None, None)
            self.refused(InvalidPolygon, wrong, cut, 2, wrong, at(0, 0), at(0, 0))
            for function in (met, less):
                self.refused(InvalidPolygon, wrong, function, 2, wrong, "other")
                self.refused(InvalidPolygon, wrong, function, 2, SQUARE, wrong)
            self.refused(InvalidPolygon, wrong, sum_of, 2, [SQUARE, wrong, "third"])
            self.refused(InvalidPolygon, wrong, sum_of, 2, (wrong, SQUARE, None))
        for wrong in (None, True, 7, "text", {SQUARE: 1}):
            self.refused(InvalidPolygon, wrong, sum_of, 2, wrong)

    def test_wrong_points(self):
        for wrong in WRONG_POINTS:
            self.refused(InvalidPoint, wrong, is_in, 2, SQUARE, wrong)
            self.refused(InvalidPoint, wrong, moved, 2, SQUARE, wrong)
            self.refused(InvalidPoint, wrong, cut, 2, SQUARE, wrong, "other")
            self.refused(InvalidPoint, wrong, cut, 2, SQUARE, at(0, 0), wrong)
            self.refused(InvalidPoint, wrong, polygon, 2, [at(0, 0), wrong, "third"])
            self.refused(InvalidPoint, wrong, polygon, 2, (wrong,))

    def test_the_same_point_twice(self):
        self.refused(InvalidPair, (at(3, 4), at(3, 4)), cut, 2, SQUARE, at(3, 4), at(3, 4))

    def test_arguments_stay_as_they_are(self):
        points = [at(0, 0), at(0, 0), at(1, 0), at(0, 1)]
        polygon(2, points)
        self.assertEqual(points, [at(0, 0), at(0, 0), at(1, 0), at(0, 1)])
        pieces = [SQUARE, moved(2, SQUARE, at(-1, 0))]
        sum_of(2, pieces)
        self.assertEqual(pieces, [SQUARE, moved(2, SQUARE, at(-1, 0))])

    def test_random_numbers_are_in_bounds(self):
        source = new_source(9)
        self.assertTrue(all(abs(real(5, random_number(source, 5))) <= 3 for _ in range(50)))


if __name__ == "__main__":
    unittest.main()

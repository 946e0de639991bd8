import unittest

from common import BIG, FLOOR, FLOORS, HERE, KINDS, SQUARE, Ways, at, is_deep_tuple, new_source, random_polygon
from test_floors import FAR, WRONG_FLOORS
from test_polygons import turn
from wholefloors.errors import InvalidFloor, InvalidNumber, InvalidPair
from wholefloors.fields import number, plus
from wholefloors.floors import added, is_place, mate_of, moved_floor
from wholefloors.lines import moved_onto, rim, tellable
from wholefloors.polygons import cut, moved, polygon

THIRD = (2, polygon(2, [at(0, 0), ((1, 0, 3), (0, 0, 1)), ((1, 0, 3), (1, 0, 1)), at(0, 1)]))
ZERO = (0, 0, 1)
WRONG_INDEXES = [None, True, False, -1, -4, "0", 0.0, (0,), [1], 10 ** 20]
PLACES = [((a, b), (c, d)) for a in range(-2, 3) for b in range(-2, 3) for c in range(-2, 3) for d in range(-2, 3)]


def lies_on(kind, points, line):
    """True if all of some points lie on the line through two points."""
    return all(turn(kind, line[0], line[1], point) == ZERO for point in points)


def moves_onto(one, i, other, j, place):
    """True if the place's mate moves the rim i of the one onto the line of the rim j of the other one."""
    kind = one[0]
    x, y = mate_of(kind, place)
    return lies_on(kind, [(plus(p, x), plus(q, y)) for p, q in rim(one, i)], rim(other, j))


def with_line(kind, one, other):
    """A floor whose rim 0 goes from a point to another one, to the right."""
    return (kind, polygon(kind, [one, other, (one[0], plus(one[1], (9, 0, 1)))]))


def rims(floor):
    return range(len(floor[1]))


class LinesTest(Ways, unittest.TestCase):
    def test_heads(self):
        self.named(rim, "floor", "i")
        self.named(moved_onto, "one", "i", "other", "j")
        self.named(tellable, "one", "other")

    def test_rims(self):
        self.assertEqual(self.same_by_name(rim, FLOOR, 1), (at(1, 0), at(1, 1)))
        self.assertEqual(rim(FLOOR, 3), (at(0, 1), at(0, 0)))
        for floor in FLOORS:
            window = floor[1]
            self.assertEqual([rim(floor, i) for i in rims(floor)], list(zip(window, window[1:] + window[:1])))

    def test_own_lines(self):
        for floor in FLOORS:
            for i in rims(floor):
                self.checked_move(floor, i, floor, i, True)

    def checked_move(self, one, i, other, j, expected):
        place = self.same_by_name(moved_onto, one, i, other, j)
        self.assertIs(place is not None, expected, (one, i, other, j))
        if place is not None:
            self.assertTrue(is_place(place))
            self.assertTrue(moves_onto(one, i, other, j, place))

    def test_level_and_upright_lines(self):
        # The line x = p is that of x = 0, moved by a mate, exactly if p is whole; likewise level ones.
        for kind in KINDS:
            square = (kind, SQUARE)
            for p in ((1, 1, 1), (0, -7, 1), (5, 0, 1), (1, 0, 2), (0, 1, 2), (1, 1, 2), (2, 3, 5), (10 ** 30, 1, 10 ** 30 - 1),
                      (3, 10 ** 25, 1), (1, 0, 10 ** 40)):
                beside = (kind, moved(kind, SQUARE, (p, (1, 0, 7))))
                for i in (1, 3):
                    for j in (1, 3):
                        self.checked_move(square, i, beside, j, p[2] == 1)
                for i in (0, 2):
                    self.checked_move(square, i, beside, i, False)
                    self.checked_move(square, i, beside, 1, False)
                above = (kind, moved(kind, SQUARE, ((1, 0, 7), p)))
                for i in (0, 2):
                    for j in (0, 2):
                        self.checked_move(square, i, above, j, p[2] == 1)

    def test_lines_that_are_not_parallel(self):
        for i in range(4):
            for j in range(4):
                if (i - j) % 2:
                    self.checked_move(FLOOR, i, BIG, j, False)
        slope = with_line(2, at(0, 0), at(7, 5))
        almost = with_line(2, at(0, 0), ((0, 5, 1), (5, 0, 1)))
        self.checked_move(slope, 0, almost, 0, False)

    def test_sloping_lines_by_what_divides_what(self):
        # Onto 2 x + 4 y = c a line 2 x + 4 y = 0 is moved exactly if 2 divides c.
        for kind in KINDS:
            slope = with_line(kind, at(0, 0), at(4, -2))
            for c in ((0, 0, 1), (2, 0, 1), (0, 2, 1), (6, -4, 1), (1, 0, 1), (0, 1, 1), (1, 1, 1), (3, 2, 1), (2, 0, 3)):
                half = number(c[0], c[1], 2 * c[2])
                other = with_line(kind, (half, ZERO), (plus(half, (4, 0, 1)), (-2, 0, 1)))
                self.checked_move(slope, 0, other, 0, half[2] == 1)
        # Onto w x + 2 y = c: if w divides c in the kind 2; always in the kind 3, as w and 2 have no divisor; 5 likewise.
        for kind in KINDS:
            slope = with_line(kind, at(0, 0), ((2, 0, 1), (0, -1, 1)))
            for c in ((1, 0), (2, 0), (0, 1), (1, 1), (4, 3), (3, 1)):
                up = number(c[0], c[1], 2)
                other = with_line(kind, (ZERO, up), ((2, 0, 1), plus(up, (0, -1, 1))))
                self.checked_move(slope, 0, other, 0, kind != 2 or c[0] % 2 == 0)

    def test_moved_floors(self):
        for floor in FLOORS:
            for place in (((1, 0), (0, 0)), ((3, -5), (2, 7)), FAR):
                other = moved_floor(floor, place)
                for i in rims(floor):
                    self.checked_move(floor, i, other, i, True)
                    self.assertTrue(moves_onto(floor, i, other, i, place))

    def test_never_means_by_no_small_place(self):
        source = new_source(31)
        for kind in KINDS:
            for _ in range(4):
                one = (kind, random_polygon(source, kind, 2))
                shift = (number(source.randint(-4, 4), source.randint(-4, 4), source.randint(1, 3)), ZERO)
                other = (kind, moved(kind, one[1], shift))
                for i in rims(one):
                    if moved_onto(one, i, other, i) is None:
                        self.assertFalse(any(moves_onto(one, i, other, i, place) for place in PLACES))
                    else:
                        self.checked_move(one, i, other, i, True)

    def test_papers(self):
        self.assertEqual(self.same_by_name(tellable, FLOOR, THIRD), ("never", 1))
        self.assertEqual(self.same_by_name(tellable, FLOOR, BIG)[0], "told")
        self.assertEqual(tellable(THIRD, FLOOR)[0], "told")
        for one in FLOORS + [THIRD]:
            for other in FLOORS + [THIRD]:
                if one[0] == other[0]:
                    self.check_paper(one, other)

    def check_paper(self, one, other):
        told = self.same_by_name(tellable, one, other)
        self.assertTrue(is_deep_tuple(told))
        least = [[i for i in rims(one) if moved_onto(one, i, other, j) is not None][:1] for j in rims(other)]
        if [] in least:
            self.assertEqual(told, ("never", least.index([])))
            return
        word, pairs = told
        self.assertEqual((word, len(pairs)), ("told", len(other[1])))
        for j, (i, place) in enumerate(pairs):
            self.assertEqual([i], least[j])
            self.assertTrue(is_place(place))
            self.assertTrue(moves_onto(one, i, other, j, place))

    def test_papers_of_cut_and_moved_windows(self):
        source = new_source(32)
        for kind in KINDS:
            for _ in range(6):
                one = (kind, random_polygon(source, kind, 2))
                self.check_paper(one, one)
                self.assertEqual(tellable(one, one)[0], "told")
                other = moved_floor(one, ((source.randint(-9, 9), 4), (source.randint(-400, 400), -7)))
                self.check_paper(one, other)
                self.assertEqual([tellable(one, other)[0], tellable(other, one)[0]], ["told", "told"])
                # What is cut off by another line is not told, but tells perhaps.
                window = one[1]
                left, _ = cut(kind, window, window[0], window[2]) if len(window) > 3 else (window, None)
                self.check_paper(one, (kind, left))
                self.check_paper((kind, left), one)

    def test_least_rims_of_all(self):
        # Of two parallel rims the least one, of rims of both sorts any of them.
        self.assertEqual([i for i, _ in tellable(FLOOR, BIG)[1]], [0, 1, 0, 1])
        lozenge = (3, polygon(3, [at(0, -1), at(1, 0), at(0, 1), at(-1, 0)]))
        self.assertEqual([i for i, _ in tellable(lozenge, lozenge)[1]], [0, 1, 0, 1])
        both = (2, polygon(2, [at(0, 0), ((1, 0, 3), (0, 0, 1)), ((1, 0, 3), (1, 0, 1)), at(0, 1)]))
        shifted = (2, moved(2, SQUARE, ((1, 0, 3), (0, 0, 1))))
        self.assertEqual([i for i, _ in tellable(both, shifted)[1]], [0, 1, 0, 1])
        self.assertEqual(tellable(shifted, both), ("never", 3))

    def test_what_tells_is_told_on(self):
        floors = [floor for floor in FLOORS + [THIRD] if floor[0] == 2]
        floors += [moved_floor(floor, ((1, 2), (3, 4))) for floor in floors]
        for one in floors:
            for other in floors:
                for third in floors:
                    if tellable(one, other)[0] == tellable(other, third)[0] == "told":
                        self.assertEqual(tellable(one, third)[0], "told")

    def test_numbers_of_any_size(self):
        n = 10 ** 50 + 1
        for kind in KINDS:
            one = (kind, polygon(kind, [((1, 0, n), (0, 1, n)), at(1, 0), ((0, 1, n - 1), (1, 1, 1)), ((-1, 0, 7), (1, 0, 1))]))
            self.check_paper(one, one)
            place = ((n, -n), (n + 5, 3))
            other = moved_floor(one, place)
            self.check_paper(one, other)
            self.assertEqual(tellable(one, other)[0], "told")
            beside = (kind, moved(kind, one[1], ((1, 0, n + 1), (1, 1, n + 2))))
            self.assertEqual(tellable(one, beside)[0], "never")
            self.check_paper(one, beside)

    def test_places_are_small_where_they_can_be(self):
        source = new_source(33)
        for kind in KINDS:
            for _ in range(60):
                one = (kind, random_polygon(source, kind))
                self.assertEqual(tellable(one, one)[1][0], (0, HERE))
                other = moved_floor(one, tuple((source.randint(-3, 3), source.randint(-3, 3)) for _ in range(2)))
                told = [place for _, place in tellable(one, other)[1]]
                self.assertLess(max(abs(part) for place in told for pair in place for part in pair), 20)

    def test_sums_of_moves(self):
        one, other = moved_floor(FLOORS[3], ((1, 1), (2, 0))), moved_floor(FLOORS[3], ((5, -1), (0, 3)))
        for i in rims(one):
            there, back = moved_onto(one, i, other, i), moved_onto(other, i, one, i)
            self.assertTrue(moves_onto(one, i, one, i, added(there, back)))

    def test_wrong_floors_come_first(self):
        for wrong in WRONG_FLOORS:
            self.refused(InvalidFloor, wrong, rim, wrong, None)
            self.refused(InvalidFloor, wrong, moved_onto, wrong, None, "other", None)
            self.refused(InvalidFloor, wrong, moved_onto, FLOOR, None, wrong, None)
            self.refused(InvalidFloor, wrong, tellable, wrong, "other")
            self.refused(InvalidFloor, wrong, tellable, FLOOR, wrong)

    def test_unlike_kinds_come_ahead_of_wrong_indexes(self):
        for one in FLOORS:
            for other in FLOORS:
                if one[0] != other[0]:
                    self.refused(InvalidPair, (one, other), tellable, one, other)
                    self.refused(InvalidPair, (one, other), moved_onto, one, None, other, -1)

    def test_wrong_indexes(self):
        for wrong in WRONG_INDEXES + [4, 5]:
            self.refused(InvalidNumber, wrong, rim, FLOOR, wrong)
            self.refused(InvalidNumber, wrong, moved_onto, FLOOR, wrong, BIG, None)
            self.refused(InvalidNumber, wrong, moved_onto, FLOOR, 0, BIG, wrong)
        # An index is one of the floor whose rim it is.
        triangle = FLOORS[2]
        self.refused(InvalidNumber, 3, moved_onto, triangle, 3, BIG, 3)
        self.refused(InvalidNumber, 3, moved_onto, BIG, 3, triangle, 3)
        self.assertIsNone(moved_onto(BIG, 3, triangle, 2))


if __name__ == "__main__":
    unittest.main()

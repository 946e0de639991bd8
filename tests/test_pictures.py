import unittest
from fractions import Fraction

from common import (
    BIG, FLOOR, FLOORS, KINDS, NONSENSE, SQUARE, Ways, at, pairs_by_hand, places_by_hand, polygon, real)
from test_floors import WRONG_FLOORS
from test_rows import ROW, ROWS, UNITS, WRONG_ROWS
from test_truths import FORTY, SOME
from wholefloors.errors import InvalidFloor, InvalidNumber, InvalidRow
from wholefloors.fields import number
from wholefloors.floors import moved_floor
from wholefloors.pictures import drawn, drawn_row, drawn_window
from wholefloors.polygons import is_in
from wholefloors.rows import stretched_row

WRONG_INTEGERS = NONSENSE + [False, 0.0, "0", (0,), [1], 1.0]
WRONG_COUNTS = WRONG_INTEGERS + [-1, -10 ** 20]


def value(kind, pair):
    return real(kind, (*pair, 1))


def drawn_by_hand(floor, left, low, wide, high, size):
    """Word for word: a sign for each cell, asked of all places around."""
    kind = floor[0]
    around = places_by_hand(floor, left - 1, low - 1, left + wide + 1, low + high + 1)
    cells = set()
    for x, y in around:
        cells.add(((value(kind, x) - left) * size // 1, (value(kind, y) - low) * size // 1))
    return ["".join("#" if (i, j) in cells else "." for i in range(wide)) for j in range(high - 1, -1, -1)]


def drawn_row_by_hand(row, left, wide, size):
    kind, low, high = row
    low, high = real(kind, low), real(kind, high)
    pairs = pairs_by_hand(kind, left - 1, left + Fraction(wide, size) + 1, low, high)
    mates = {2: lambda a, b: real(2, (a, -b, 1)), 3: lambda a, b: real(3, (a, -b, 1)), 5: lambda a, b: real(5, (a + b, -b, 1))}[kind]
    tiny = Fraction(1, 10 ** 50)
    cells = {(value(kind, pair) - left + tiny) * size // 1 for pair in pairs if low - tiny <= mates(*pair) < high - tiny}
    return "".join("#" if i in cells else "." for i in range(wide))


class PicturesTest(Ways, unittest.TestCase):
    def test_heads(self):
        self.named(drawn, "floor", "left", "low", "wide", "high", "size")
        self.named(drawn_row, "row", "left", "wide", "size")
        self.named(drawn_window, "floor", "size", "wide", "high")

    def test_floors_by_hand(self):
        for floor in FLOORS + SOME:
            for left, low, wide, high, size in ((-3, -2, 6, 5, 1), (0, 0, 13, 9, 2), (-2, -5, 20, 30, 8), (1, 0, 7, 1, 3)):
                rows = self.same_by_name(drawn, floor, left, low, wide, high, size)
                self.assertIs(type(rows), list)
                self.assertEqual(rows, drawn_by_hand(floor, left, low, wide, high, size))

    def test_the_small_square(self):
        # It has the places 0 and 2 + w, in both numbers, and -2 - w is none, as its mate is below 0.
        row = "#..#.#"
        self.assertEqual(drawn(FLOOR, 0, 0, 6, 6, 1), [row, "......", row, "......", "......", row])
        self.assertEqual(drawn(FLOOR, 0, 0, 4, 4, 1), ["#..#", "....", "....", "#..#"])
        self.assertEqual(drawn(FLOOR, 0, 0, 3, 3, 1), ["...", "...", "#.."])

    def test_places_on_the_ends_of_cells(self):
        # HERE is on the left end and the low rim of a cell, and on the right end and the upper rim of others.
        self.assertEqual(drawn(FLOOR, 0, 0, 1, 1, 1), ["#"])
        self.assertEqual(drawn(FLOOR, -1, 0, 1, 1, 1), ["."])
        self.assertEqual(drawn(FLOOR, 0, -1, 1, 1, 1), ["."])
        self.assertEqual(drawn(FLOOR, -1, -1, 2, 2, 1), [".#", ".."])
        self.assertEqual(drawn(FLOOR, -1, -1, 3, 3, 8), ["..."] * 3)
        self.assertEqual(drawn(BIG, 0, 0, 9, 9, 8), ["#.......#"] + ["........."] * 7 + ["#.......#"])
        for size in range(1, 9):
            self.assertEqual(drawn(FLOOR, 0, 0, 1, 1, size), ["#"])
            self.assertEqual(drawn(FLOOR, -1, -1, size + 1, 1, size), ["." * (size + 1)])

    def test_no_rows_and_no_columns(self):
        self.assertEqual(drawn(FLOOR, 0, 0, 0, 0, 1), [])
        self.assertEqual(drawn(FLOOR, 0, 0, 5, 0, 1), [])
        self.assertEqual(drawn(FLOOR, 0, 0, 0, 3, 8), ["", "", ""])
        self.assertEqual(drawn_row(ROW, 0, 0, 1), "")
        self.assertEqual(drawn_window(FLOOR, 1, 0, 0), ["#"])
        self.assertEqual(drawn_window(FLOOR, 1, 1, 0), [".#."])
        self.assertEqual(drawn_window(FLOOR, 1, 0, 1), [".", "#", "."])

    def test_floors_moved_far_away(self):
        for floor in (BIG, FLOORS[3]):
            for move in (((5, 0), (-7, 0)), ((10 ** 9, 0), (-10 ** 12, 0))):
                (a, _), (c, _) = move
                self.assertEqual(drawn(moved_floor(floor, move), a, c, 12, 12, 2), drawn(floor, 0, 0, 12, 12, 2))
        self.assertEqual(len(drawn(moved_floor(BIG, FORTY), 0, 0, 30, 30, 1)), 30)
        self.assertIn(drawn(BIG, -10 ** 12, 0, 1, 1, 1), (["#"], ["."]))

    def test_rows_by_hand(self):
        for row in ROWS:
            for left, wide, size in ((0, 30, 1), (-7, 30, 3), (2, 16, 8)):
                self.assertEqual(self.same_by_name(drawn_row, row, left, wide, size), drawn_row_by_hand(row, left, wide, size), row)
        self.assertEqual(drawn_row(ROW, 0, 6, 1), "#.#..#")
        # The member 0 is on the left end of a cell; from 2 to 3 is 1 + w.
        self.assertEqual(drawn_row(ROW, -1, 2, 1), ".#")
        self.assertEqual([drawn_row(ROW, 0, 1, size) for size in range(1, 9)], ["#"] * 8)

    def test_long_and_short_rows(self):
        for kind in KINDS:
            row = (kind, (0, 0, 1), (1, 0, 1))
            long = (kind, (-10 ** 12, 0, 1), (10 ** 12, 0, 1))
            self.assertEqual(drawn_row(long, -3, 30, 8), "#" * 30)
            for unit in UNITS[kind]:
                short = stretched_row(row, unit)
                self.assertEqual(drawn_row(short, 0, 30, 1), drawn_row_by_hand(short, 0, 30, 1))
                for _ in range(6):
                    short = stretched_row(short, unit)
                self.assertEqual(drawn_row(short, 0, 12, 1), "#" + "." * 11)

    def test_windows(self):
        for floor in FLOORS + SOME:
            for size, wide, high in ((1, 3, 4), (2, 5, 3), (8, 9, 11)):
                rows = self.same_by_name(drawn_window, floor, size, wide, high)
                expected = [[is_in(floor[0], floor[1], (number(i, 0, size), number(j, 0, size))) for i in range(-wide, wide + 1)]
                            for j in range(high, -high - 1, -1)]
                self.assertEqual(rows, ["".join("#" if told else "." for told in line) for line in expected])
        self.assertEqual(drawn_window(BIG, 1, 2, 2), [".....", "..##.", "..##.", ".....", "....."])
        self.assertEqual(drawn_window((2, polygon(2, [at(-1, -1), at(1, -1), at(1, 1), at(-1, 1)])), 2, 3, 3),
                         ["......."] * 2 + [".####.."] * 4 + ["......."])

    def test_lists_are_new(self):
        drawn(FLOOR, 0, 0, 2, 2, 1).clear()
        drawn_window(FLOOR, 1, 1, 1).clear()
        self.assertEqual([len(drawn(FLOOR, 0, 0, 2, 2, 1)), len(drawn_window(FLOOR, 1, 1, 1))], [2, 3])

    def test_wrong_floors_and_rows_come_first(self):
        for wrong in WRONG_FLOORS:
            self.refused(InvalidFloor, wrong, drawn, wrong, None, None, -1, -1, 0)
            self.refused(InvalidFloor, wrong, drawn_window, wrong, 0, -1, -1)
        for wrong in WRONG_ROWS:
            self.refused(InvalidRow, wrong, drawn_row, wrong, None, -1, 0)

    def test_wrong_numbers(self):
        for wrong in WRONG_INTEGERS:
            self.refused(InvalidNumber, wrong, drawn, FLOOR, wrong, None, -1, -1, 0)
            self.refused(InvalidNumber, wrong, drawn, FLOOR, 0, wrong, -1, -1, 0)
            self.refused(InvalidNumber, wrong, drawn_row, ROW, wrong, -1, 0)
        for wrong in WRONG_COUNTS:
            self.refused(InvalidNumber, wrong, drawn, FLOOR, 0, 0, wrong, -1, 0)
            self.refused(InvalidNumber, wrong, drawn, FLOOR, 0, 0, 0, wrong, 0)
            self.refused(InvalidNumber, wrong, drawn_row, ROW, 0, wrong, 0)
            self.refused(InvalidNumber, wrong, drawn_window, FLOOR, 1, wrong, -1)
            self.refused(InvalidNumber, wrong, drawn_window, FLOOR, 1, 0, wrong)
        for wrong in WRONG_COUNTS + [0]:
            self.refused(InvalidNumber, wrong, drawn, FLOOR, 0, 0, 0, 0, wrong)
            self.refused(InvalidNumber, wrong, drawn_row, ROW, 0, 0, wrong)
            # The size of a window's picture comes ahead of how wide it is.
            self.refused(InvalidNumber, wrong, drawn_window, FLOOR, wrong, -1, -1)

    def test_squares_of_all_kinds(self):
        for kind in KINDS:
            self.assertEqual(drawn((kind, SQUARE), 0, 0, 1, 1, 1), ["#"])
            self.assertEqual(drawn_window((kind, SQUARE), 8, 8, 8)[0][8:], "." * 9)
            self.assertEqual(drawn_window((kind, SQUARE), 8, 8, 8)[8], "." * 8 + "#" * 8 + ".")


if __name__ == "__main__":
    unittest.main()

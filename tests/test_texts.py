import unittest

from common import BIG, FLOOR, FLOORS, HERE, Ways, at, polygon
from test_sayings import ALL, ASLANT, BESIDE, RIGHT, SAYINGS, UP
from wholefloors.floors import moved_floor
from wholefloors.texts import (
    show_floor, show_number, show_paper, show_place, show_places, show_point, show_region, show_row, show_rule, show_saying,
    show_whole, show_word)
from wholefloors.told import telling_rule

GREAT = 10 ** 3999 + 12345
SQUARE_TEXT = "floor 2\n0 0\n1 0\n1 1\n0 1"


def deep_saying(depth):
    saying = BESIDE
    for _ in range(depth - 1):
        saying = ("not", saying)
    return saying


class TextsTest(Ways, unittest.TestCase):
    def test_heads(self):
        for function, name in ((show_number, "p"), (show_whole, "pair"), (show_point, "point"), (show_place, "place"), (show_places, "places"),
                               (show_floor, "floor"), (show_row, "row"), (show_word, "word"), (show_region, "region"),
                               (show_saying, "saying"), (show_rule, "rule"), (show_paper, "paper")):
            self.named(function, name)

    def test_numbers(self):
        for p, text in (((0, 0, 1), "0"), ((7, 0, 1), "7"), ((-7, 0, 1), "-7"), ((1, 1, 1), "1+1w"), ((1, -1, 1), "1-1w"), ((0, 1, 1), "0+1w"),
                        ((0, -12, 1), "0-12w"), ((-3, 4, 1), "-3+4w"), ((-3, -4, 1), "-3-4w"), ((1, 0, 2), "1/2"), ((-1, 0, 2), "-1/2"),
                        ((1, -2, 3), "(1-2w)/3"), ((-1, 2, 3), "(-1+2w)/3"), ((0, 1, 2), "(0+1w)/2"), ((2, 4, 5), "(2+4w)/5"),
                        ((999999999, -999999999, 999999998), "(999999999-999999999w)/999999998"), ((10 ** 9, 0, 7), "1000000000/7")):
            self.assertEqual(self.same_by_name(show_number, p), text)

    def test_whole_numbers(self):
        for pair, text in (((0, 0), "0"), ((0, 1), "0+1w"), ((-5, 0), "-5"), ((3, -2), "3-2w"), ((10 ** 9, 10 ** 10), "1000000000+10000000000w")):
            self.assertEqual(self.same_by_name(show_whole, pair), text)

    def test_long_integers(self):
        figures = "1" + "0" * 3994 + "12345"
        self.assertEqual(show_number((GREAT, -GREAT, 1)), figures + "-" + figures + "w")
        self.assertEqual(show_number((-GREAT, GREAT, GREAT + 1)), "(-" + figures + "+" + figures + "w)/1" + "0" * 3994 + "12346")
        # Somewhat longer ones than Python itself writes are written too.
        self.assertEqual(show_whole((10 ** 5000, -10 ** 6000 - 7)), "1" + "0" * 5000 + "-1" + "0" * 5999 + "7w")
        for power in (63, 64, 65, 127, 128, 129):
            for n in (10 ** power - 1, 10 ** power, 10 ** power + 1, 3 * 10 ** power):
                self.assertEqual([show_whole((n, 0)), show_whole((-n, 0))], [str(n), str(-n)])

    def test_points_and_places(self):
        self.assertEqual(self.same_by_name(show_point, ((1, 0, 2), (0, -1, 1))), "1/2 0-1w")
        self.assertEqual(self.same_by_name(show_place, ((1, 0), (0, -1))), "1 0-1w")
        self.assertEqual(show_place(HERE), "0 0")
        self.assertEqual(self.same_by_name(show_places, (UP, RIGHT)), "0 1, 1 0")
        self.assertEqual(show_places([RIGHT, UP, RIGHT]), "1 0, 0 1, 1 0")
        self.assertEqual([show_places(()), show_places([]), show_places((HERE,))], ["-", "-", "0 0"])

    def test_lists_stay_as_they_were(self):
        some = [RIGHT, UP]
        show_places(some)
        self.assertEqual(some, [RIGHT, UP])

    def test_floors(self):
        self.assertEqual(self.same_by_name(show_floor, FLOOR), SQUARE_TEXT)
        self.assertEqual(show_floor(moved_floor((5, FLOOR[1]), ((0, 1), (1, 0)))), "floor 5\n1-1w 1\n2-1w 1\n2-1w 2\n1-1w 2")
        self.assertEqual(show_floor(FLOORS[2]), "floor 2\n0 0\n0+1w 0\n1/2 2")

    def test_rows(self):
        self.assertEqual(self.same_by_name(show_row, (5, (0, 0, 1), (1, 0, 1))), "row 5 0 1")
        self.assertEqual(show_row((2, (-1, -2, 3), (0, 1, 1))), "row 2 (-1-2w)/3 0+1w")

    def test_words(self):
        self.assertEqual(self.same_by_name(show_word, (0, 1, 2, 10)), "0 1 2 10")
        self.assertEqual([show_word(()), show_word((0,)), show_word((300,))], ["-", "0", "300"])

    def test_regions(self):
        self.assertEqual(self.same_by_name(show_region, ()), "-")
        other = polygon(2, [((1, 0, 1), (0, 0, 1)), ((2, 0, 1), (0, 0, 1)), ((2, 0, 1), (1, 0, 2))])
        self.assertEqual(show_region((FLOOR[1], other)), "0 0, 1 0, 1 1, 0 1\n1 0, 2 0, 2 1/2")

    def test_sayings(self):
        for saying, text in (
                (ALL, "(all)"), (BESIDE, "(has 1 0)"), (("has", ASLANT), "(has -1+1w 0-1w)"), (("step", UP, ALL), "(step 0 1 (all))"),
                (("not", BESIDE), "(not (has 1 0))"), (("both", ALL, BESIDE), "(both (all) (has 1 0))"),
                (("either", BESIDE, ("not", ALL)), "(either (has 1 0) (not (all)))"), (("some", 0, ALL), "(some 0 (all))"),
                (("many", 2, 17, ("both", ALL, ALL)), "(many 2 17 (both (all) (all)))"),
                (("step", ((0, 1), (2, 0)), ("some", 1, ("many", 0, 0, ALL))), "(step 0+1w 2 (some 1 (many 0 0 (all))))")):
            self.assertEqual(self.same_by_name(show_saying, saying), text)
        for depth in (20, 900):
            self.assertEqual(show_saying(deep_saying(depth)), "(not " * (depth - 1) + "(has 1 0)" + ")" * (depth - 1))
        for saying in SAYINGS:
            text = show_saying(saying)
            self.assertEqual([text.count("("), text.count("  "), text.strip()], [text.count(")"), 0, text])

    def test_rules(self):
        self.assertEqual(self.same_by_name(show_rule, telling_rule(FLOOR, FLOOR, 0)), "- : 0 0")
        self.assertEqual(show_rule((((UP, RIGHT), (HERE, ASLANT)), ((RIGHT,), ()))), "0 1, 1 0 : 0 0, -1+1w 0-1w\n1 0 : -")
        self.assertEqual(len(show_rule(telling_rule(BIG, FLOOR, 1)).split("\n")), 4)

    def test_papers(self):
        for paper, text in (
                (("all",), "all"), (("none",), "none"), (("some", HERE, ASLANT), "some 0 0 / -1+1w 0-1w"), (("never", 0), "never 0"),
                (("never", 11), "never 11"), (("told", ((0, HERE),)), "told 0 0 0"), (("told", ((3, ASLANT), (0, UP))), "told 3 -1+1w 0-1w, 0 0 1")):
            self.assertEqual(self.same_by_name(show_paper, paper), text)

    def test_points_of_windows(self):
        self.assertEqual([show_point(point) for point in (at(0, 0), at(-1, 2))], ["0 0", "-1 2"])


if __name__ == "__main__":
    unittest.main()

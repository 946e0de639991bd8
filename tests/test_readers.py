import unittest

from common import BIG, FLOOR, FLOORS, HERE, KINDS, Ways, is_deep_tuple, new_source, random_number
from test_rows import ROWS
from test_sayings import ALL, ASLANT, BESIDE, RIGHT, SAYINGS, UP
from test_texts import SQUARE_TEXT, deep_saying
from test_told import PAIRS
from test_truths import SOME
from wholefloors.errors import Unreadable
from wholefloors.fields import number
from wholefloors.floors import moved_floor
from wholefloors.lines import tellable
from wholefloors.polygons import polygon
from wholefloors.readers import (
    read_floor, read_number, read_paper, read_place, read_places, read_point, read_row, read_rule, read_saying, read_word)
from wholefloors.rows import words
from wholefloors.texts import (
    show_floor, show_number, show_paper, show_place, show_places, show_point, show_row, show_rule, show_saying, show_word)
from wholefloors.told import telling_rule, tells
from wholefloors.truths import decided

NINE = 999999999
READERS = (read_number, read_point, read_place, read_places, read_floor, read_row, read_word, read_saying, read_rule, read_paper)
NUMBERS = [(0, 0, 1), (7, 0, 1), (-7, 0, 1), (1, 1, 1), (0, -1, 1), (-3, 4, 1), (1, 0, 2), (-1, 0, 2), (1, -2, 3), (-1, -2, 3), (0, 1, 2),
           (NINE, NINE, NINE - 1), (-NINE, -NINE, NINE - 1), (NINE, 0, 1), (0, NINE, 1)]
# Texts that no number is shown as.
WRONG_NUMBERS = [
    "", " ", "-", "+", "w", "1w", "-w", "+1w", "-1w", "0+0w", "1+0w", "1-0w", "+1", "-0", "00", "01", "-01", "1+01w", "01+1w", "1+1", "1-1", "1+w",
    "1+-1w", "1--1w", "1-+1w", "1++1w", "1+1w ", " 1", "1 ", "1 +1w", "1+ 1w", "1+1 w", "1+1W", "1+1w1", "1+1ww", "1+1w+1w", "1/1", "2/2", "2/4",
    "0/3", "1/-2", "-1/-2", "1/0", "1/02", "1/+2", "1/", "/2", "1/2/3", "(1)/2", "(1+1w)", "(1+1w)/1", "(2+2w)/2", "(1+0w)/2", "1+1w/2", "(1+1w/2",
    "1+1w)/2", "((1+1w))/2", "(1+1w)/ 2", "( 1+1w)/2", "(1+1w )/2", "1.0", "1e1", "1_0", "0x1", "one", "1,0", "1000000000", "-1000000000",
    "1+1000000000w", "1000000000+1w", "1/1000000000", "(1+1w)/1000000000", "0000000001", "1" * 4000, "1+" + "1" * 4000 + "w", "None", "True"]


class ReadersTest(Ways, unittest.TestCase):
    def refused_line(self, n, function, text):
        self.refused(Unreadable, n, function, text)

    def test_heads(self):
        for function in READERS:
            self.named(function, "text")

    def test_numbers(self):
        source = new_source(181)
        for p in NUMBERS + [random_number(source, kind) for kind in KINDS for _ in range(20)]:
            self.assertEqual(self.same_by_name(read_number, show_number(p)), p)
        for text in WRONG_NUMBERS:
            self.refused_line(1, read_number, text)
            self.refused_line(1, read_number, text + "\n0")

    def test_all_short_texts(self):
        # Whatever is read is shown just so.
        signs = "0129+-w/()"
        texts = [""]
        for _ in range(4):
            texts = [text + sign for text in texts for sign in signs] + [""]
            for text in texts:
                told = self.number_or_none(text)
                if told is not None:
                    self.assertEqual(show_number(told), text)
                    self.assertEqual(told, number(*told))

    def number_or_none(self, text):
        try:
            return read_number(text)
        except Unreadable as error:
            self.assertEqual(error.value, 1)
            return None

    def test_points_and_places(self):
        for p in NUMBERS:
            for q in NUMBERS[::3]:
                self.assertEqual(self.same_by_name(read_point, show_point((p, q))), (p, q))
        for place in (HERE, RIGHT, ASLANT, ((NINE, -NINE), (-NINE, NINE))):
            self.assertEqual(self.same_by_name(read_place, show_place(place)), place)
        for text in ("", "0", "0 ", " 0", "0  0", " 0 0", "0 0 ", "0 0 0", "0, 0", "0,0", "0 0,", "(0 0)", "0\t0", "1/2", "- -", "-"):
            self.refused_line(1, read_point, text)
            self.refused_line(1, read_place, text)
            self.refused_line(1, read_places, text if text != "-" else "--")
        for text in WRONG_NUMBERS:
            for pair in (text + " 0", "0 " + text):
                self.refused_line(1, read_point, pair)
                self.refused_line(1, read_place, pair)
        # A point has any numbers, a place has whole ones.
        self.assertEqual(read_point("1/2 (1-1w)/2"), ((1, 0, 2), (1, -1, 2)))
        for text in ("1/2 0", "0 (1-1w)/2"):
            self.refused_line(1, read_place, text)

    def test_places_of_any_sequence(self):
        for some in ((), (HERE,), (UP, RIGHT), (RIGHT, UP, RIGHT), (ASLANT, HERE, HERE)):
            told = self.same_by_name(read_places, show_places(some))
            self.assertEqual(told, some)
            self.assertTrue(is_deep_tuple(told))
        for text in ("", "0 0,0 0", "0 0,  0 0", "0 0 , 0 0", "0 0, ", ", 0 0", "0 0, -", "-, 0 0", "- ", " -", "--", "0 0, 0", "0 0; 1 1", "0 0, 1/2 0"):
            self.refused_line(1, read_places, text)

    def test_floors(self):
        self.assertEqual(self.same_by_name(read_floor, SQUARE_TEXT), FLOOR)
        for floor in FLOORS + SOME + [moved_floor(BIG, ((12345, -6789), (0, 40000)))]:
            told = read_floor(show_floor(floor))
            self.assertEqual(told, floor)
            self.assertTrue(is_deep_tuple(told))
        twelve = polygon(3, [((x, 0, 1), (x * x, 0, 1)) for x in range(-5, 7)])
        self.assertEqual(read_floor(show_floor((3, twelve))), (3, twelve))

    def test_floors_whose_lines_can_not_stand(self):
        lines = SQUARE_TEXT.split("\n")
        for first in ("", "floor", "floor ", "floor  2", "floor 2 ", " floor 2", "Floor 2", "floor two", "floor 02", "floor +2", "floor 2.0", "floor 2 3",
                      "floors 2", "row 2", "2", "floor 1+1w", "floor 1000000000", "0 0", "floor -"):
            self.refused_line(1, read_floor, "\n".join([first] + lines[1:]))
            self.refused_line(1, read_floor, first)
            self.refused_line(1, read_floor, first + "\nfloor 2\n")
        for at in range(1, 5):
            for wrong in ("", "0", "0 0 0", "0  0", " 0 0", "0 0 ", "0,0", "floor 2", "-", "0 00", "0 1000000000"):
                self.refused_line(at + 1, read_floor, "\n".join(lines[:at] + [wrong] + lines[at + 1:]))
                # The first one counts.
                self.refused_line(at + 1, read_floor, "\n".join(lines[:at] + [wrong] + lines[at + 1:] + ["", "x"]))
        self.refused_line(6, read_floor, SQUARE_TEXT + "\n")
        self.refused_line(1, read_floor, "\n" + SQUARE_TEXT)
        # A point that can not stand is told ahead of a kind that is none.
        self.refused_line(2, read_floor, "floor 7\nx")

    def test_floors_that_are_not_right(self):
        for text in ("floor 2", "floor 7", "floor 2\n0 0", "floor 2\n0 0\n1 0", "floor 2\n0 0\n1 0\n2 0", "floor 2\n0 0\n0 1\n1 0", "floor 2\n1 0\n1 1\n0 0",
                     "floor 2\n0 0\n1 0\n1 1\n0 1\n0 0", "floor 4\n0 0\n1 0\n1 1\n0 1", "floor -2\n0 0\n1 0\n1 1\n0 1", "floor 0\n0 0\n1 0\n1 1\n0 1",
                     "floor 2\n0 0\n1 0\n1 1\n0 1\n1/4 1/2", "floor 2\n0 0\n1/2 0\n1 0\n0 1", "floor 5\n0 0\n0 0\n1 0\n0 1", "floor 999999999\n0 0"):
            self.refused_line(0, read_floor, text)

    def test_rows(self):
        for row in ROWS:
            self.assertEqual(self.same_by_name(read_row, show_row(row)), row)
        for text in ("", "row", "row 2", "row 2 0", "row 2 0 1 2", "row  2 0 1", "row 2 0 1 ", " row 2 0 1", "Row 2 0 1", "floor 2 0 1", "row two 0 1",
                     "row 2 0 1000000000", "row 02 0 1", "row 2 0 1/1", "row 2 x 1", "row 2, 0 1", "row 1+1w 0 1"):
            self.refused_line(1, read_row, text)
            self.refused_line(1, read_row, text + "\nrow 2 0 1")
        for text in ("row 2 0 0", "row 2 1 0", "row 4 0 1", "row -2 0 1", "row 0 0 1", "row 2 0+1w 7/5"):
            self.refused_line(0, read_row, text)
            # A second line can not stand, whether the first one makes a row or not.
            self.refused_line(2, read_row, text + "\n")
        self.assertEqual(read_row("row 2 7/5 0+1w"), (2, (7, 0, 5), (0, 1, 1)))

    def test_words(self):
        for word in ((), (0,), (0, 1, 2, 1, 0), (300, 7), (NINE,)):
            self.assertEqual(self.same_by_name(read_word, show_word(word)), word)
        for word, _ in words(ROWS[0], 6):
            self.assertEqual(read_word(show_word(word)), word)
        for text in ("", " ", "- ", "--", "0 ", " 0", "0  1", "0, 1", "00", "01", "-1", "-0", "+1", "1000000000", "0 -", "- 0", "0w", "1/2", "one", "0 1+1w"):
            self.refused_line(1, read_word, text)

    def test_sayings(self):
        for saying in SAYINGS:
            if saying == ("many", 1, 10 ** 20, ALL):
                self.refused_line(1, read_saying, show_saying(saying))
                continue
            told = self.same_by_name(read_saying, show_saying(saying))
            self.assertEqual(told, saying)
            self.assertTrue(is_deep_tuple(told))
        for depth in (20, 300):
            text = show_saying(deep_saying(depth))
            self.assertEqual(read_saying(text), deep_saying(depth))
            for wrong in (text[:-1], text + ")", text[1:], "(" + text, text.replace("1 0", "1"), text.replace("has", "have")):
                self.refused_line(1, read_saying, wrong)

    def test_what_is_no_saying(self):
        for text in ("", " ", "-", "all", "(", ")", "()", "(all", "all)", "( all)", "(all )", " (all)", "(all) ", "(ALL)", "(all)(all)", "(all) (all)",
                     "((all))", "(all 1)", "(all (all))", "(has)", "(has 1)", "(has 1 0 0)", "(has (1 0))", "(has 1  0)", "(has 1 0 )", "(has 1/2 0)", "(has x y)",
                     "(has 1 0 (all))", "(has 01 0)", "(has 1000000000 0)", "(has -)", "(step 1 0)", "(step (all))", "(step (all) 1 0)", "(step 1 0 all)",
                     "(step 1 0(all))", "(step 1 0 (all) (all))", "(step 1 (all) (all))", "(not)", "(not all)", "(not(all))", "(not (all) (all))", "(not  (all))",
                     "(not 1 0)", "(both (all))", "(both (all) (all) (all))", "(both (all)(all))", "(both (all)  (all))", "(both (all), (all))", "(either (all))",
                     "(either (all) all)", "(some (all))", "(some 1)", "(some -1 (all))", "(some 01 (all))", "(some 1+1w (all))", "(some 1 1 (all))",
                     "(some 1000000000 (all))", "(some (all) 1)", "(many 1 (all))", "(many 1 2)", "(many 1 -2 (all))", "(many 1 2 3 (all))", "(many 1 2 (all) (all))",
                     "(nor (all) (all))", "(1 0)", "((has 1 0) has)", "(has 1 0))", ")(", "(not )", "(not ())", "[all]", "(all),", "((all) not)"):
            self.refused_line(1, read_saying, text)

    def test_rules(self):
        for one, other in PAIRS:
            for r in (0, 1):
                if tells(one, other, r):
                    rule = telling_rule(one, other, r)
                    self.assertEqual(self.same_by_name(read_rule, show_rule(rule)), rule)
        # Any places, in any sequence.
        some = (((RIGHT, UP, RIGHT), ()), ((), (ASLANT, HERE)), ((), ()), ((RIGHT, UP, RIGHT), ()))
        self.assertEqual(read_rule(show_rule(some)), some)
        self.assertTrue(is_deep_tuple(read_rule(show_rule(some))))
        for wrong in ("", ":", " : ", "-", "- :", ": -", "-:-", "- : ", " : -", "- :  -", "-  : -", "- : - ", " - : -", "- : - : -", "0 0 : 0", "0 0; 0 0", "x : -", "- : x",
                      "0 0, : -", "- : 1/2 0"):
            self.refused_line(1, read_rule, wrong)
            self.refused_line(2, read_rule, "- : -\n" + wrong)
            self.refused_line(3, read_rule, "- : -\n0 0 : 1 0, 0 1\n" + wrong + "\n\n")
        self.refused_line(2, read_rule, "- : -\n")

    def test_papers(self):
        for paper in (("all",), ("none",), ("some", HERE, ASLANT), ("some", RIGHT, RIGHT), ("never", 0), ("never", 300), ("told", ((0, HERE),)),
                      ("told", ((3, ASLANT), (0, UP), (0, UP)))):
            told = self.same_by_name(read_paper, show_paper(paper))
            self.assertEqual(told, paper)
            self.assertTrue(is_deep_tuple(told))
        for one, other in PAIRS:
            paper = tellable(one, other)
            if "1" * 10 not in show_paper(paper) and max(map(len, show_paper(paper).replace("w", " ").replace("-", " ").replace("+", " ").split())) <= 9:
                self.assertEqual(read_paper(show_paper(paper)), paper)
        for saying in SAYINGS[:12]:
            self.assertEqual(read_paper(show_paper(decided(BIG, saying))), decided(BIG, saying))
        for text in ("", " ", "All", "all ", " all", "all 0 0", "none ", "none 1", "some", "some ", "some 0 0", "some 0 0 /", "some 0 0 / ", "some 0 0 / 0", "some 0 0/0 0",
                     "some  0 0 / 1 0", "some 0 0 / 1 0 ", "some 0 0 / 1 0 / 1 0", "some 0 0  / 1 0", "some 1/2 0 / 1 0", "some - / 1 0", "told", "told ", "told -", "told 0",
                     "told 0 0", "told 0 0 0 0", "told -1 0 0", "told 00 0 0", "told 0 0 0,", "told 0 0 0, ", "told 0 0 0,1 0 0", "told  0 0 0", "told 0 0 0, 0 0", "told 0 1/2 0",
                     "told 1000000000 0 0", "never", "never ", "never -1", "never -", "never 0 ", "never  0", "never 00", "never 0 0", "never x", "never 1000000000", "0", "told never 0"):
            self.refused_line(1, read_paper, text)

    def test_more_lines_than_one(self):
        for function, text in ((read_number, "1/2"), (read_point, "0 0"), (read_place, "0 0"), (read_places, "-"), (read_row, "row 2 0 1"), (read_word, "0 1"),
                               (read_saying, "(all)"), (read_paper, "all")):
            function(text)
            for more in ("\n", "\n" + text, "\n\n", "\nx", "\n "):
                self.refused_line(2, function, text + more)
                self.refused_line(1, function, "?" + text + more)
            self.refused_line(1, function, "\n" + text)

    def test_texts_of_another_sort(self):
        texts = {read_number: "0", read_point: "1/2 0", read_floor: SQUARE_TEXT, read_row: "row 2 0 1", read_saying: "(all)", read_rule: "0 0 : -", read_paper: "all"}
        for function in texts:
            for other in texts:
                if other != function:
                    self.refused_line(1, function, texts[other])

    def test_longer_integers_are_shown_and_not_read(self):
        for p in ((10 ** 9, 0, 1), (0, 10 ** 9, 1), (1, 0, 10 ** 9), (10 ** 3999, -1, 1)):
            self.refused_line(1, read_number, show_number(p))
        self.refused_line(1, read_place, show_place(((10 ** 9, 0), (0, 0))))
        self.refused_line(2, read_floor, show_floor(moved_floor(FLOOR, ((-10 ** 9, 0), (0, 0)))))

    def test_what_is_no_text(self):
        for function in READERS:
            for wrong in (None, 0, True, (), [], b"0", ("all",)):
                self.refused_line(1, function, wrong)


if __name__ == "__main__":
    unittest.main()

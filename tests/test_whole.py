"""What the document promises over the whole program: its interface, and what is told by one file and handed on to another."""

import ast
import importlib
import inspect
import os
import unittest

from common import BIG, FLOOR, FLOORS, HERE, KINDS, SQUARE, Ways, at, box_of, is_deep_tuple, less_places, polygon, real
from test_floors import FAR
from test_lines import THIRD
from test_rows import ROWS, UNITS
from test_sayings import ALL, BESIDE, RIGHT, SAYINGS, UP
from test_told import PAIRS
from test_truths import FORTY, SOME, few
from wholefloors.alikes import alike, apart, first_unlike, is_one
from wholefloors.colours import colours
from wholefloors.consoles import Console
from wholefloors.fields import by, compared, number, plus, sign, times
from wholefloors.floors import added, density, has, is_floor, mate_of, moved_floor, nearest, places, turned_about
from wholefloors.judges import judge_lines, judge_parted, judge_rule, judge_saying
from wholefloors.lines import tellable
from wholefloors.lots import lots, tell_each_other
from wholefloors.patches import found, part, patch_of, patches, share
from wholefloors.pictures import drawn, drawn_row
from wholefloors.polygons import area, is_polygon, moved, sum_of
from wholefloors.readers import read_floor, read_paper, read_row, read_rule, read_saying
from wholefloors.regions import has_point, is_region, joined, less_of, parting, region_area, region_of, same_region
from wholefloors.returns import again, lonely
from wholefloors.rows import fillings, found_word, gaps, grown_word, grows_itself, is_member, members, next_member, stretched_row, word, words
from wholefloors.rules import grown, is_rule, rule
from wholefloors.sayings import holds
from wholefloors.stretches import lies_within, stretched, taken, taken_floor, undone
from wholefloors.texts import show_floor, show_paper, show_places, show_row, show_rule, show_saying
from wholefloors.told import parted, spread, telling_rule, tells, told_places
from wholefloors.truths import decided, saying_region, saying_share

PACKAGE = os.path.join(os.path.dirname(os.path.dirname(os.path.abspath(__file__))), "wholefloors")
INTERFACE = """
fields: is_number(told) number(a, b, n) plus(p, q) minus(p, q) scaled(p, k) times(kind, p, q) by(kind, p, q) mate(kind, p) norm(kind, p) sign(kind, p)
fields: compared(kind, p, q) floor_of(kind, p) about(kind, p, n) unit(kind) stretch_unit(kind)
polygons: is_polygon(kind, told) polygon(kind, points) area(kind, polygon) is_in(kind, polygon, point) moved(kind, polygon, point)
polygons: cut(kind, polygon, one, other) met(kind, one, other) less(kind, one, other) sum_of(kind, polygons)
floors: is_place(told) is_floor(told) mate_of(kind, place) point_of(place) added(one, other) turned_about(place) has(floor, place) density(floor)
floors: places(floor, box) moved_floor(floor, place) nearest(floor, place)
patches: near(floor, r) patch_of(floor, place, r) part(floor, r, patch) share(floor, r, patch) comes(floor, r, patch) patches(floor, r)
patches: found(floor, r, patch) how_often(floor, r, step)
returns: again(floor, r, patch) is_again(floor, r, patch, far) lonely(floor, r, patch, far) all_again(floor, r)
alikes: is_one(one, other) alike(one, other) first_unlike(one, other, most) apart(one, other, r)
stretches: is_matrix(kind, told) is_unit(kind, told) taken(kind, matrix, place) undone(kind, matrix) behind(kind, one, other) taken_floor(floor, matrix)
stretches: stretched(floor, unit) lies_within(one, other) least_power(one, other, most)
rules: rule(floor, unit, r) grows(floor, unit, r) ungrown(floor, unit, r) grown(floor, unit, r, some) is_rule(floor, unit, r, told)
rows: is_row(told) is_member(row, member) members(row, left, right) next_member(row, member) last_member(row, member) gaps(row) word(row, member, n)
rows: word_part(row, word) words(row, n) found_word(row, word) stretched_row(row, unit) fillings(row, unit) grows_itself(row, unit)
rows: grown_word(row, unit, word)
regions: is_region(kind, told) region_of(kind, polygons) joined(kind, one, other) both_of(kind, one, other) less_of(kind, one, other)
regions: moved_region(kind, region, point) region_area(kind, region) has_point(kind, region, point) lies_in(kind, one, other)
regions: same_region(kind, one, other) parting(kind, one, other)
sayings: is_saying(told) reach(kind, saying) holds(floor, saying, place) true_places(floor, saying, box)
truths: saying_region(floor, saying) saying_share(floor, saying) decided(floor, saying) same_sayings(floor, one, other) implies(floor, one, other)
truths: unlike(floor, one, other) again_true(floor, saying) true_patches(floor, saying)
colours: colour_of(floor, sayings, place) colours(floor, sayings) follows(floor, sayings, saying) not_following(floor, sayings, saying)
colours: least_sayings(floor, sayings, saying)
division: divided(kind, p, q) divides(kind, q, p) common_divisor(kind, p, q) solved(kind, p, q, c)
lines: rim(floor, i) moved_onto(one, i, other, j) tellable(one, other)
told: spread(one, other) tells(one, other, r) telling_rule(one, other, r) parted(one, other, r) least_telling(one, other, most)
told: told_places(one, other, r, some)
judges: judge_saying(floor, saying, paper) judge_lines(one, other, paper) judge_rule(one, other, r, told) judge_parted(one, other, r, told)
lots: tell_each_other(one, other) lots(floors)
pictures: drawn(floor, left, low, wide, high, size) drawn_row(row, left, wide, size) drawn_window(floor, size, wide, high)
texts: show_number(p) show_whole(pair) show_point(point) show_place(place) show_places(places) show_floor(floor) show_row(row) show_word(word)
texts: show_region(region) show_saying(saying) show_rule(rule) show_paper(paper)
readers: read_number(text) read_point(text) read_place(text) read_places(text) read_floor(text) read_row(text) read_word(text) read_saying(text)
readers: read_rule(text) read_paper(text)
"""
SHEARS = {2: (((3, 2), (1, 0)), ((0, 0), (1, 0))), 3: (((1, 0), (-1, 1)), ((0, 0), (2, 1))), 5: (((1, 1), (0, 1)), ((0, 0), (2, -1)))}


def heads():
    """(file, function, parameters) of the interface."""
    for line in INTERFACE.strip().split("\n"):
        file, _, rest = line.partition(": ")
        for head in rest.split(") "):
            name, _, names = head.rstrip(")").partition("(")
            yield file, name, tuple(names.split(", "))


def total(shares):
    told = (0, 0, 1)
    for own in shares:
        told = plus(told, own)
    return told


class WholeTest(Ways, unittest.TestCase):
    def test_interface(self):
        made = list(heads())
        self.assertEqual(len(made), 151)
        for file, name, names in made:
            module = importlib.import_module("wholefloors." + file)
            function = vars(module)[name]
            self.assertTrue(inspect.isfunction(function))
            self.assertEqual(function.__module__, module.__name__)
            self.named(function, *names)
            kinds = {parameter.kind for parameter in inspect.signature(function).parameters.values()}
            self.assertEqual(kinds, {inspect.Parameter.POSITIONAL_OR_KEYWORD})

    def test_functions_are_defined_in_their_files(self):
        wanted = {}
        for file, name, _ in heads():
            wanted.setdefault(file, set()).add(name)
        for file, names in wanted.items():
            with open(os.path.join(PACKAGE, file + ".py"), encoding="utf-8") as text:
                defined = {node.name for node in ast.parse(text.read()).body if isinstance(node, ast.FunctionDef)}
            self.assertLessEqual(names, defined)

    def test_patches_are_found_and_come_again(self):
        for floor in FLOORS[:5] + SOME[:2]:
            told = patches(floor, 1)
            self.assertEqual(total(own for _, own in told), (1, 0, 1))
            for patch, own in told[::5]:
                place = found(floor, 1, patch)
                self.assertEqual(patch_of(floor, place, 1), patch)
                self.assertEqual(share(floor, 1, patch), own)
                self.assertEqual(by(floor[0], sum_of(floor[0], part(floor, 1, patch)), area(floor[0], floor[1])), own)
                region = region_of(floor[0], part(floor, 1, patch))
                self.assertIs(has_point(floor[0], region, mate_of(floor[0], place)), True)
                if compared(floor[0], own, (1, 0, 9)) > 0:
                    far = again(floor, 1, patch)
                    self.assertIsNone(lonely(floor, 1, patch, far))
                    if far:
                        self.assertTrue(has(floor, lonely(floor, 1, patch, far - 1)))

    def test_regions_of_sayings_are_handed_on(self):
        for floor in [BIG, FLOORS[3]] + SOME[:2]:
            kind = floor[0]
            good = [saying for saying in SAYINGS if few(saying, floor)]
            for one, other in zip(good, good[3:] + good[:3]):
                first, second = saying_region(floor, one), saying_region(floor, other)
                either = saying_region(floor, ("either", one, other))
                self.assertTrue(same_region(kind, joined(kind, first, second), either))
                self.assertTrue(same_region(kind, less_of(kind, first, second), saying_region(floor, ("both", one, ("not", other)))))
                self.assertEqual(by(kind, region_area(kind, either), area(kind, floor[1])), saying_share(floor, ("either", one, other)))
                point = parting(kind, first, second)
                if point is not None:
                    self.assertNotEqual(has_point(kind, first, point), has_point(kind, second, point))
                for told in either:
                    # What is told is a window, too.
                    self.assertTrue(is_floor((kind, told)))
                    self.assertTrue(lies_within((kind, told), floor))

    def test_papers_are_shown_and_read_and_judged(self):
        for floor in [FLOOR, BIG, FLOORS[3]] + SOME[:2]:
            for saying in SAYINGS[:18]:
                if few(saying, floor):
                    paper = read_paper(show_paper(decided(floor, saying)))
                    self.assertIs(judge_saying(floor, read_saying(show_saying(saying)), paper), True)

    def test_what_is_told_is_judged(self):
        for one, other in PAIRS:
            self.assertIs(judge_lines(one, other, tellable(one, other)), True)
            if tells(one, other, 1):
                told = telling_rule(one, other, 1)
                self.assertIs(judge_rule(one, other, 1, read_rule(show_rule(told))), True)
                self.assertTrue(all(has(other, place) for place in told_places(one, other, 1, tuple(places(one, box_of(-3, -3, 3, 3))))))
            else:
                self.assertIs(judge_parted(one, other, 1, parted(one, other, 1)), True)

    def test_moved_floors_are_never_the_floor(self):
        for floor in FLOORS:
            kind = floor[0]
            for move in (RIGHT, UP, ((0, 1), (0, 0)), ((1, 1), (-1, 0)), FAR, FORTY):
                other = moved_floor(floor, move)
                self.assertEqual(other, (kind, moved(kind, floor[1], mate_of(kind, move))))
                self.assertIs(is_one(floor, other), False)
                self.assertEqual(alike(floor, other), mate_of(kind, move))
                self.assertIsNone(first_unlike(floor, other, 1))
                self.assertEqual(sign(kind, apart(floor, other, 1)), 0)
                self.assertIs(tell_each_other(floor, other), True)
                self.assertEqual(density(other), density(floor))
                self.assertEqual(moved_floor(other, turned_about(move)), floor)
                place = places(floor, box_of(-4, -4, 4, 4))[0]
                self.assertTrue(has(other, added(place, move)))
                self.assertEqual(nearest(other, added(place, move)), 0)
            self.assertEqual(moved_floor(floor, HERE), floor)
        self.assertEqual(lots((FLOOR, moved_floor(THIRD, FORTY), moved_floor(BIG, FORTY), THIRD)), ((0, 2), (1, 3)))

    def test_taken_floors_are_handed_on(self):
        for floor in [FLOOR, BIG, FLOORS[3], FLOORS[5], (3, SQUARE), (5, SQUARE)]:
            kind = floor[0]
            matrix = SHEARS[kind]
            other = taken_floor(floor, matrix)
            self.assertEqual(taken_floor(other, undone(kind, matrix)), floor)
            for place in places(floor, box_of(-3, -3, 3, 3)):
                self.assertTrue(has(other, taken(kind, matrix, place)))
            told = patches(other, 1)
            self.assertEqual(total(own for _, own in told), (1, 0, 1))
            self.assertEqual(spread(other, other), 0)
            self.assertEqual(total(own for _, own in colours(other, (BESIDE, ("has", UP)))), (1, 0, 1))
            self.assertIs(judge_saying(other, BESIDE, decided(other, BESIDE)), True)
            self.assertEqual(read_floor(show_floor(other)), other)
            self.assertEqual(len(drawn(other, -3, -3, 12, 12, 2)), 12)

    def test_stretched_floors_and_rules(self):
        for floor in (FLOOR, (3, SQUARE), (5, SQUARE)):
            unit = UNITS[floor[0]][0]
            small = stretched(floor, unit)
            self.assertTrue(lies_within(small, floor))
            self.assertIs(tells(small, small, 0), True)
            told = rule(floor, unit, 0)
            self.assertIs(is_rule(floor, unit, 0, told), True)
            some = tuple(places(floor, box_of(-2, -2, 2, 2)))
            self.assertTrue(all(has(floor, place) for place in grown(floor, unit, 0, some)))
            # A telling rule has the form of a growing one.
            self.assertEqual(read_rule(show_rule(told)), told)

    def test_rows_of_any_length_are_handed_on(self):
        for row in ROWS[:6]:
            kind = row[0]
            for unit in UNITS[kind]:
                other = row
                for _ in range(4):
                    other = stretched_row(other, unit)
                told = gaps(other)
                self.assertEqual(total(own for _, own, _ in told), (1, 0, 1))
                member = found_word(other, words(other, 2)[0][0])
                self.assertTrue(is_member(other, member))
                self.assertEqual(word(other, member, 2), words(other, 2)[0][0])
                following = next_member(other, member)
                self.assertTrue(is_member(other, following))
                self.assertEqual(members(other, (*member, 1), (*following, 1)), [member, following])
                self.assertEqual(read_row(show_row(stretched_row(row, UNITS[kind][0]))), stretched_row(row, UNITS[kind][0]))
                self.assertEqual(len(drawn_row(other, 0, 30, 8)), 30)

    def test_fillings_are_handed_on(self):
        row = (5, (0, 0, 1), (1, 0, 1))
        self.assertIs(grows_itself(row, (1, 1)), True)
        told = (0,)
        for _ in range(4):
            told = grown_word(row, (1, 1), told)
        self.assertIn((1, 0), fillings(row, (1, 1))[0])
        self.assertEqual(word(row, found_word(row, told), len(told)), told)

    def test_windows_of_twelve_corners(self):
        for kind in KINDS:
            window = polygon(kind, [(number(x, 0, 4), number(x * x, 0, 16)) for x in range(-6, 6)])
            self.assertEqual(len(window), 12)
            floor = (kind, window)
            self.assertTrue(is_polygon(kind, window))
            self.assertEqual(total(own for _, own in patches(floor, 1)), (1, 0, 1))
            self.assertIs(judge_saying(floor, BESIDE, decided(floor, BESIDE)), True)
            self.assertEqual(tellable(floor, floor), ("told", tuple((i, HERE) for i in range(12))))
            self.assertEqual(spread(floor, floor), 0)
            self.assertEqual(read_floor(show_floor(floor)), floor)
            # Small and thin ones, too.
            small = (kind, tuple((by(kind, x, (20, 0, 1)), times(kind, y, (2, 0, 1))) for x, y in window))
            self.assertTrue(is_floor(small))
            self.assertTrue(has(small, places(small, box_of(-90, -40, 90, 40))[0]))
            self.assertEqual(patches(small, 0), [((), (1, 0, 1))])

    def test_lists_are_new_and_arguments_stay(self):
        points = [at(1, 1), at(0, 0), at(1, 0), at(0, 1)]
        self.assertEqual(polygon(2, points), SQUARE)
        self.assertEqual(points, [at(1, 1), at(0, 0), at(1, 0), at(0, 1)])
        polygons = [SQUARE, BIG[1]]
        region_of(2, polygons)
        sum_of(2, polygons)
        show_places([UP, RIGHT])
        self.assertEqual(polygons, [SQUARE, BIG[1]])
        for function, values in ((patches, (BIG, 1)), (places, (BIG, box_of(0, 0, 3, 3))), (colours, (BIG, (BESIDE,))), (drawn, (BIG, 0, 0, 2, 2, 1)),
                                 (gaps, (ROWS[0],)), (words, (ROWS[0], 2)), (members, (ROWS[0], (0, 0, 1), (9, 0, 1)))):
            told = function(*values)
            self.assertIs(type(told), list)
            self.assertTrue(is_deep_tuple(tuple(told)))
            kept = list(told)
            told.clear()
            self.assertEqual(function(*values), kept)

    def test_consoles_hold_what_they_were_given(self):
        console = Console()
        console.keep_floor("big", BIG)
        console.keep_row("row", ROWS[0])
        console.names().append(("x", "floor"))
        before = console.order("patches big 1")
        for text in ("stretched big big 3+2w", "undo", "moved small big 1 0", "drop small", "undo", "undo", "gaps row", "long row row 1+1w", "undo"):
            console.order(text)
        self.assertEqual([console.floor("big"), console.row("row"), console.names()], [BIG, ROWS[0], [("big", "floor"), ("row", "row")]])
        self.assertEqual(console.order("patches big 1"), before)

    def test_sayings_of_places_and_regions_are_one(self):
        for floor in SOME:
            kind = floor[0]
            for saying in SAYINGS[:12]:
                if not few(saying, floor):
                    continue
                region = saying_region(floor, saying)
                self.assertTrue(is_region(kind, region))
                for place in places(floor, box_of(-2, -2, 2, 2)):
                    self.assertIs(has_point(kind, region, mate_of(kind, place)), holds(floor, saying, place))

    def test_shares_are_how_many_there_are(self):
        # In a great square are as many places as its area times the density, and of these the share.
        floor = BIG
        inner = places(floor, box_of(-30, -30, 30, 30))
        self.assertAlmostEqual(len(inner) / 3600, float(real(2, density(floor))), delta=0.03)
        right = [place for place in inner if holds(floor, BESIDE, place)]
        self.assertAlmostEqual(len(right) / len(inner), 0.5, delta=0.03)
        self.assertEqual(less_places(RIGHT, RIGHT), HERE)
        self.assertEqual(saying_share(floor, ALL), (1, 0, 1))


if __name__ == "__main__":
    unittest.main()

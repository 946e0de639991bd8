import unittest

from common import (
    BIG, FLOOR, FLOORS, HERE, KINDS, NONSENSE, SQUARE, Ways, at, box_of, is_deep_tuple, less_places, pairs_by_hand, places_by_hand,
    real, size_by_hand)
from test_division import product
from test_floors import FAR, WRONG_FLOORS, WRONG_PLACES
from test_patches import WRONG_RADII, random_floors
from wholefloors.errors import InvalidFloor, InvalidRadius, InvalidRule, InvalidUnit, NotInFloor
from wholefloors.fields import mate, times
from wholefloors.floors import added, has, mate_of, moved_floor, places
from wholefloors.patches import part, patch_of, patches
from wholefloors.polygons import met, moved, polygon
from wholefloors.regions import region_of, same_region
from wholefloors.rules import grown, grows, is_rule, rule, ungrown

UNITS = {2: (3, 2), 3: (2, 1), 5: (1, 1)}
# Windows of an area to 2.
SMALL = [FLOOR, FLOORS[2], FLOORS[7]] + [(kind, SQUARE) for kind in (3, 5)] + random_floors(81, 6, 2)
THIRDS = (5, polygon(5, [at(0, 0), at(1, 0), ((1, 0, 1), (1, 0, 3)), ((0, 0, 1), (1, 0, 3))]))
WRONG_UNITS = NONSENSE + [(1, 0), (0, 0), (3, -2), (2, -1), (-3, -2), (2, 0), (0, 1), (1,), (3, 2, 1), [3, 2], (3, True), (3.0, 2)]
WRONG_RULES = [wrong for wrong in NONSENSE if wrong != ()] + [
    ((),), (((),),), (((), (), ()),), (((), None),), ((None, ()),), (((), [HERE]),), (([], ()),), [((), ())], (((), (HERE, None)),),
    (((HERE, (0, 0)), ()),), (((), (((0, True), (0, 0)),)),), (((), HERE),), ([(), ()],), (((), ()), None), ((), ())]


def within_unit(kind):
    """All places with no number of a greater absolute value than the unit."""
    most = real(kind, (*UNITS[kind], 1))
    pairs = pairs_by_hand(kind, -most, most, -9, 9)
    return [(x, y) for x in pairs for y in pairs]


def times_mate(kind, piece):
    """A polygon times the mate of the unit."""
    factor = mate(kind, (*UNITS[kind], 1))
    return tuple((times(kind, factor, x), times(kind, factor, y)) for x, y in piece)


def steps_by_hand(floor, pieces):
    """By [10]: the places by whose mates the pieces, times the unit's mate, are moved into the window."""
    kind, window = floor
    small = [times_mate(kind, piece) for piece in pieces]
    found = []
    for step in within_unit(kind):
        shift = mate_of(kind, step)
        if not near_window(kind, window, small[0][0], shift):
            continue
        if all(met(kind, moved(kind, piece, shift), window) == moved(kind, piece, shift) for piece in small):
            found.append(step)
    return tuple(sorted(found))


def near_window(kind, window, corner, shift):
    """False only if a corner, moved, is far from all points of a window."""
    for at in (0, 1):
        numbers = [float(real(kind, point[at])) for point in window]
        there = float(real(kind, corner[at])) + float(real(kind, shift[at]))
        if not min(numbers) - 0.1 < there < max(numbers) + 0.1:
            return False
    return True


def stretched_place(kind, place):
    return tuple(product(kind, UNITS[kind], pair) for pair in place)


def grown_by_hand(floor, told, r, some):
    """The places that come of some places by a rule."""
    steps = dict(told)
    return tuple(sorted({added(stretched_place(floor[0], place), step) for place in some
                         for step in steps[patch_of(floor, place, r)]}))


class RulesTest(Ways, unittest.TestCase):
    def test_heads(self):
        for function in (rule, grows, ungrown):
            self.named(function, "floor", "unit", "r")
        self.named(grown, "floor", "unit", "r", "some")
        self.named(is_rule, "floor", "unit", "r", "told")

    def test_rules_by_the_words_of_the_document(self):
        for floor in SMALL:
            for r in (0, 1):
                told = self.same_by_name(rule, floor, UNITS[floor[0]], r)
                self.assertTrue(is_deep_tuple(told))
                self.assertEqual([patch for patch, _ in told], [patch for patch, _ in patches(floor, r)])
                for patch, steps in told[::3]:
                    self.assertEqual(steps, steps_by_hand(floor, part(floor, r, patch)))

    def test_all_steps_hold_for_all_places(self):
        for floor in SMALL[:5]:
            kind = floor[0]
            inner = places(floor, box_of(-5, -5, 5, 5))
            for r in (0, 1):
                steps = dict(rule(floor, UNITS[kind], r))
                missing = {patch: [step for step in within_unit(kind) if step not in steps[patch]] for patch in steps}
                for place in inner:
                    patch = patch_of(floor, place, r)
                    there = stretched_place(kind, place)
                    self.assertTrue(all(has(floor, added(there, step)) for step in steps[patch]))
                    missing[patch] = [step for step in missing[patch] if has(floor, added(there, step))]
                if r == 0:
                    # Each step that is not told fails for some place.
                    self.assertLess(len(missing[()]), 20)

    def test_the_square(self):
        self.assertEqual(len(rule(FLOOR, (3, 2), 0)), 1)
        (patch, steps), = rule(FLOOR, (3, 2), 0)
        self.assertEqual([patch, len(steps)], [(), 25])
        self.assertIn(HERE, steps)
        self.assertTrue(all(size_by_hand(2, step) <= 3 + 2 * 1.4142136 for step in steps))
        self.assertEqual(len(self.same_by_name(grown, FLOOR, (3, 2), 0, (HERE,))), 25)
        self.assertEqual(self.same_by_name(grown, FLOOR, (3, 2), 0, ()), ())
        # In the kind 5 the mates of minus w, of 0 and of the unit move the small square into the square.
        moves = ((0, -1), (0, 0), (1, 1))
        self.assertEqual(rule((5, SQUARE), (1, 1), 0), (((), tuple((x, y) for x in moves for y in moves)),))

    def test_steps_as_far_as_the_unit(self):
        # (1, 1) is as great as the unit, and its mate moves the stretched square to the upper rim.
        self.assertIn(((1, 1), (1, 1)), dict(rule((5, SQUARE), (1, 1), 0))[()])
        wide = (5, polygon(5, [at(-1, -1), at(1, -1), at(1, 0), at(-1, 0)]))
        steps = dict(rule(wide, (1, 1), 0))[()]
        self.assertEqual(steps, steps_by_hand(wide, (wide[1],)))
        self.assertIn(((-1, -1), (0, 0)), steps)

    def test_rules_with_no_step(self):
        # Beside 0 the stretched window does not fit in, but for what moves it back.
        slim = (2, moved(2, polygon(2, [at(0, 0), at(2, 0), ((2, 0, 1), (1, 0, 7)), ((0, 0, 1), (1, 0, 7))]), ((0, 0, 1), (7, 1, 2))))
        told = rule(slim, (3, 2), 0)
        self.assertEqual(told[0][1], steps_by_hand(slim, (slim[1],)))
        bare = (5, moved(5, THIRDS[1], ((0, 0, 1), (10, 0, 1))))
        self.assertEqual(rule(bare, (1, 1), 0), (((), steps_by_hand(bare, (bare[1],))),))
        empty = [floor for floor in (slim, bare) if rule(floor, UNITS[floor[0]], 0)[0][1] == ()]
        self.assertNotEqual(empty, [])
        for floor in empty:
            self.assertIs(grows(floor, UNITS[floor[0]], 0), False)
            place = places(moved_floor(floor, HERE), box_of(-30, -30, 30, 30))[0]
            self.assertEqual(grown(floor, UNITS[floor[0]], 0, (place,)), ())

    def test_which_rules_grow(self):
        self.assertIs(self.same_by_name(grows, FLOOR, (3, 2), 0), False)
        for r in (0, 1):
            self.assertIs(self.same_by_name(grows, (5, SQUARE), (1, 1), r), True)
            self.assertIsNone(self.same_by_name(ungrown, (5, SQUARE), (1, 1), r))
        told = [self.checked_growth(floor, r) for floor in SMALL for r in (0, 1)]
        self.assertEqual(set(told), {False, True})

    def checked_growth(self, floor, r):
        """By [10]: a rule grows the floor exactly if the moved parts make up the window."""
        kind, window = floor
        told = rule(floor, UNITS[kind], r)
        pieces = [moved(kind, times_mate(kind, piece), mate_of(kind, step))
                  for patch, steps in told for piece in part(floor, r, patch) for step in steps]
        expected = same_region(kind, region_of(kind, pieces), (window,))
        self.assertIs(grows(floor, UNITS[kind], r), expected)
        place = self.same_by_name(ungrown, floor, UNITS[kind], r)
        self.assertEqual(place is None, expected)
        if place is not None:
            self.assertTrue(has(floor, place))
            self.assertFalse(self.comes(floor, told, r, place))
        return expected

    def comes(self, floor, told, r, place):
        """True if a place comes of some place of the floor, tried with each step."""
        kind = floor[0]
        a, b = UNITS[kind]
        inverse = (a + b, -b) if kind == 5 else (a, -b)
        steps_of = dict(told)
        for step in {step for _, steps in told for step in steps}:
            x, y = less_places(place, step)
            source = (product(kind, inverse, x), product(kind, inverse, y))
            if has(floor, source) and step in steps_of[patch_of(floor, source, r)]:
                return True
        return False

    def test_what_grows_has_all_places(self):
        floor = (5, SQUARE)
        told = rule(floor, (1, 1), 1)
        for place in places_by_hand(floor, -9, -9, 9, 9):
            self.assertTrue(self.comes(floor, told, 1, place))
        inner = tuple(places(floor, box_of(-4, -4, 4, 4)))
        self.assertLessEqual(set(places(floor, box_of(-7, -7, 7, 7))), set(grown(floor, (1, 1), 1, inner)))

    def test_grown_places(self):
        for floor in SMALL:
            kind = floor[0]
            for r in (0, 1):
                told = rule(floor, UNITS[kind], r)
                some = tuple(places(floor, box_of(-4, -4, 4, 4)))
                expected = grown_by_hand(floor, told, r, some)
                self.assertEqual(self.same_by_name(grown, floor, UNITS[kind], r, some), expected)
                self.assertTrue(all(has(floor, place) for place in expected))
                # In another sequence, some of them twice.
                self.assertEqual(grown(floor, UNITS[kind], r, some[::-1] + some[:3]), expected)
                self.assertEqual(grown(floor, UNITS[kind], r, some[:1] * 3), grown_by_hand(floor, told, r, some[:1]))
                self.assertEqual(grown(floor, UNITS[kind], r, ()), ())
                self.assertTrue(is_deep_tuple(expected))

    def test_moved_floors(self):
        for floor in SMALL[3:5]:
            kind = floor[0]
            near = moved_floor(floor, ((1, 0), (0, 1)))
            self.assertEqual(rule(near, UNITS[kind], 0), (((), steps_by_hand(near, (near[1],))),))

    def test_whether_something_is_the_rule(self):
        for floor in SMALL:
            for r in (0, 1):
                unit = UNITS[floor[0]]
                told = rule(floor, unit, r)
                self.assertIs(self.same_by_name(is_rule, floor, unit, r, told), True)
                patch, steps = told[0]
                for wrong in (told[1:], told + told[:1], ((patch, steps + (FAR,)),) + told[1:], ((patch + (FAR,), steps),) + told[1:],
                              ((patch, steps[1:]),) + told[1:], ((patch, steps[::-1]),) + told[1:], ()):
                    self.assertIs(is_rule(floor, unit, r, wrong), wrong == told)
        self.assertIs(is_rule(FLOOR, (3, 2), 0, ((HERE,) * 2, (HERE,) * 2)[:0]), False)
        self.assertIs(is_rule(BIG, (3, 2), 0, (((HERE, HERE), (FAR, HERE)),)), False)

    def test_wrong_floors_come_first(self):
        for wrong in WRONG_FLOORS:
            for function in (rule, grows, ungrown):
                self.refused(InvalidFloor, wrong, function, wrong, None, -1)
            self.refused(InvalidFloor, wrong, grown, wrong, None, -1, (None,))
            self.refused(InvalidFloor, wrong, is_rule, wrong, None, -1, None)

    def test_wrong_units_come_second(self):
        for floor in (FLOOR, (3, SQUARE), (5, SQUARE)):
            for wrong in WRONG_UNITS + [unit for kind, unit in UNITS.items() if kind != floor[0]]:
                for function in (rule, grows, ungrown):
                    self.refused(InvalidUnit, wrong, function, floor, wrong, -1)
                self.refused(InvalidUnit, wrong, grown, floor, wrong, -1, (None,))
                self.refused(InvalidUnit, wrong, is_rule, floor, wrong, -1, None)

    def test_wrong_radii_come_third(self):
        for wrong in WRONG_RADII:
            for function in (rule, grows, ungrown):
                self.refused(InvalidRadius, wrong, function, FLOOR, (3, 2), wrong)
            self.refused(InvalidRadius, wrong, grown, FLOOR, (3, 2), wrong, (None,))
            self.refused(InvalidRadius, wrong, is_rule, FLOOR, (3, 2), wrong, None)

    def test_what_is_no_place_of_the_floor(self):
        for wrong in WRONG_PLACES + [((1, 0), (0, 0)), ((0, 0), (-1, 0)), FAR]:
            self.refused(NotInFloor, wrong, grown, FLOOR, (3, 2), 0, (wrong,))
            self.refused(NotInFloor, wrong, grown, FLOOR, (3, 2), 1, (HERE, HERE, wrong, None, FAR))

    def test_what_is_no_rule(self):
        for wrong in WRONG_RULES:
            self.refused(InvalidRule, wrong, is_rule, FLOOR, (3, 2), 0, wrong)
        for kind in KINDS:
            self.assertIs(is_rule((kind, SQUARE), UNITS[kind], 0, ()), False)


if __name__ == "__main__":
    unittest.main()

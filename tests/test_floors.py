import unittest
from math import ceil

from common import (
    BIG, FLOOR, FLOORS, HERE, KINDS, NONSENSE, SQUARE, Ways, at, box_of, has_by_hand, is_deep_tuple, less_places,
    new_source, places_by_hand, real, size_by_hand)
from test_polygons import WRONG_POLYGONS
from wholefloors.errors import InvalidBox, InvalidFloor, InvalidKind, InvalidPlace
from wholefloors.fields import by, compared, mate
from wholefloors.floors import (
    added, density, has, is_floor, is_place, mate_of, moved_floor, nearest, places, point_of, turned_about)
from wholefloors.polygons import area, is_in, moved, polygon

WRONG_FLOORS = NONSENSE + [(2, wrong) for wrong in WRONG_POLYGONS] + [
    (4, SQUARE), (True, SQUARE), ("2", SQUARE), (2.0, SQUARE), [2, SQUARE], (2, SQUARE, 1), (2,), (SQUARE, 2), SQUARE]
WRONG_PLACES = NONSENSE + [((0, 0),), ((0, 0), (0, 0), (0, 0)), ((0, 0), (0,)), ((0, 0), (0, True)), ((False, 0), (0, 0)),
                           ([0, 0], (0, 0)), ((0, 0), [0, 0]), [(0, 0), (0, 0)], ((0, 0, 1), (0, 0, 1)), ((0, 0), 0),
                           ((0, 0.0), (0, 0)), ((0, 0), (0, "0"))]
WRONG_BOXES = NONSENSE + [box_of(1, 0, 0, 1), box_of(0, 1, 1, 0), list(box_of(0, 0, 1, 1)), box_of(0, 0, 1, 1)[:3],
                          box_of(0, 0, 1, 1) + ((1, 0, 1),), (0, 0, 1, 1), ((0, 0, 2), (0, 0, 1), (1, 0, 1), (1, 0, 1)),
                          ((3, 0, 2), (0, 0, 1), (0, 1, 1), (1, 0, 1)), (True, False, True, True)]
FAR = ((400, -399), (-397, 400))


class FloorsTest(Ways, unittest.TestCase):
    def test_heads(self):
        self.named(is_place, "told")
        self.named(is_floor, "told")
        self.named(mate_of, "kind", "place")
        self.named(point_of, "place")
        self.named(added, "one", "other")
        self.named(turned_about, "place")
        self.named(has, "floor", "place")
        self.named(density, "floor")
        self.named(places, "floor", "box")
        self.named(moved_floor, "floor", "place")
        self.named(nearest, "floor", "place")

    def test_what_is_a_place(self):
        for place in (HERE, FAR, ((10 ** 50, -1), (0, 3))):
            self.assertIs(self.same_by_name(is_place, place), True)
        for wrong in WRONG_PLACES:
            self.assertIs(is_place(wrong), False, wrong)

    def test_what_is_a_floor(self):
        for floor in FLOORS:
            self.assertIs(self.same_by_name(is_floor, floor), True)
        for wrong in WRONG_FLOORS:
            self.assertIs(is_floor(wrong), False, wrong)
        triangle = (at(0, 0), ((3, 0, 2), (3, 0, 2)), ((0, 1, 1), (3, 0, 2)))
        self.assertEqual([is_floor((kind, triangle)) for kind in KINDS], [True, False, False])

    def test_mates_and_points(self):
        self.assertEqual(self.same_by_name(mate_of, 2, ((1, 1), (0, 2))), ((1, -1, 1), (0, -2, 1)))
        self.assertEqual(mate_of(5, ((1, 1), (0, 2))), ((2, -1, 1), (2, -2, 1)))
        self.assertEqual(self.same_by_name(point_of, ((1, 1), (0, 2))), ((1, 1, 1), (0, 2, 1)))
        for kind in KINDS:
            x, y = point_of(FAR)
            self.assertEqual(mate_of(kind, FAR), (mate(kind, x), mate(kind, y)))

    def test_sums_of_places(self):
        one, other = ((1, 2), (3, 4)), ((10, -20), (30, 40))
        self.assertEqual(self.same_by_name(added, one, other), ((11, -18), (33, 44)))
        self.assertEqual(self.same_by_name(turned_about, one), ((-1, -2), (-3, -4)))
        self.assertEqual(added(one, turned_about(one)), HERE)

    def test_which_places_a_floor_has(self):
        self.assertIs(self.same_by_name(has, FLOOR, HERE), True)
        self.assertIs(self.same_by_name(has, FLOOR, ((1, 0), (0, 0))), False)
        # On each rim and at each corner of the window, by the mates.
        self.assertEqual([has(BIG, ((x, 0), (y, 0))) for x in (0, 1, 2) for y in (0, 1, 2)],
                         [True, True, False, True, True, False, False, False, False])
        lozenge = (3, polygon(3, [at(0, -1), at(1, 0), at(0, 1), at(-1, 0)]))
        corners = [((0, 0), (-1, 0)), ((1, 0), (0, 0)), ((0, 0), (1, 0)), ((-1, 0), (0, 0))]
        self.assertEqual([has(lozenge, corner) for corner in corners], [False, False, False, True])
        for floor in FLOORS:
            kind, window = floor
            for a in range(-3, 4):
                for b in range(-3, 4):
                    place = ((a, b), (b - a, a))
                    self.assertIs(has(floor, place), is_in(kind, window, mate_of(kind, place)))
                    self.assertIs(has(floor, place), has_by_hand(floor, place))

    def test_densities(self):
        self.assertEqual(self.same_by_name(density, FLOOR), (1, 0, 8))
        for floor in FLOORS:
            kind, window = floor
            self.assertEqual(density(floor), by(kind, area(kind, window), ({2: 8, 3: 12, 5: 5}[kind], 0, 1)))
            # In a great square are so many places, near enough.
            many = len(places(floor, box_of(-30, -30, 30, 30)))
            self.assertLess(abs(many - 3600 * real(kind, density(floor))), 60)

    def test_places_by_hand(self):
        for floor in FLOORS:
            found = self.same_by_name(places, floor, box_of(-4, -3, 3, 5))
            self.assertIs(type(found), list)
            self.assertEqual(found, places_by_hand(floor, -4, -3, 3, 5))
            self.assertTrue(all(is_deep_tuple(place) for place in found))

    def test_ends_of_boxes(self):
        self.assertEqual(places(FLOOR, ((0, 0, 1), (0, 0, 1), (0, 0, 1), (4, 0, 1))), [HERE, ((0, 0), (2, 1))])
        for floor in FLOORS:
            kind = floor[0]
            found = places(floor, box_of(-5, -5, 5, 5))
            for place in found[::7]:
                x, y = point_of(place)
                # No wider than a place, and with places at all ends.
                self.assertEqual(places(floor, (x, y, x, y)), [place])
                self.assertIn(place, places(floor, (x, y, (9, 0, 1), (9, 0, 1))))
                self.assertIn(place, places(floor, ((-9, 0, 1), (-9, 0, 1), x, y)))
                in_line = [told for told in found if told[0] == place[0]]
                self.assertEqual(places(floor, (x, (-5, 0, 1), x, (5, 0, 1))), in_line)
                before = (x[0] * 10 ** 9 - 1, x[1] * 10 ** 9, 10 ** 9)
                self.assertEqual(places(floor, (before, y, before, y)), [])
        self.assertEqual(places(BIG, ((1, 0, 2), (0, 0, 1), (1, 0, 2), (9, 0, 1))), [])

    def test_long_boxes_far_away(self):
        for floor in FLOORS:
            box = ((-999, 12, 1), (998, 3, 1), (-899, 12, 1), (999, 3, 1))
            left, low, right, high = (real(floor[0], side) for side in box)
            self.assertEqual(places(floor, box), places_by_hand(floor, left, low, right, high))

    def test_moved_floors(self):
        for floor in FLOORS:
            kind, window = floor
            for place in (HERE, ((1, 1), (-2, 3)), FAR, ((0, -400), (400, 0))):
                other = self.same_by_name(moved_floor, floor, place)
                self.assertTrue(is_floor(other))
                self.assertEqual(other, (kind, moved(kind, window, mate_of(kind, place))))
                # None is moved onto itself by another place than HERE.
                self.assertEqual(other == floor, place == HERE)
                found = places(floor, box_of(-3, -3, 3, 3))
                self.assertTrue(all(has(other, added(told, place)) for told in found))
                self.assertEqual(density(other), density(floor))
                self.assertEqual(moved_floor(other, turned_about(place)), floor)
                self.assertEqual(places_of_moved(other, place), found)

    def test_nearest(self):
        source = new_source(10)
        for floor in FLOORS:
            for place in [HERE, FAR] + [tuple((source.randint(-9, 9), source.randint(-9, 9)) for _ in range(2))
                                        for _ in range(6)]:
                told = self.same_by_name(nearest, floor, place)
                self.assertIs(type(told), int)
                self.assertEqual(told == 0, has(floor, place))
                found = around(floor, place, told)
                self.assertIn(told, [ceil(size_by_hand(floor[0], less_places(other, place))) for other in found])
                self.assertEqual(around(floor, place, told - 1) if told else [], [])

    def test_nearest_of_a_narrow_window(self):
        sliver = (5, polygon(5, [at(-20, -20), at(20, 19), ((20, 0, 1), (1901, 0, 100))]))
        self.assertEqual(compared(5, area(*sliver), (1, 0, 5)), 0)
        far = nearest(sliver, FAR)
        self.assertTrue(around(sliver, FAR, far))
        self.assertEqual(around(sliver, FAR, far - 1), [])

    def test_wrong_floors_come_first(self):
        for wrong in WRONG_FLOORS:
            self.refused(InvalidFloor, wrong, has, wrong, None)
            self.refused(InvalidFloor, wrong, density, wrong)
            self.refused(InvalidFloor, wrong, places, wrong, None)
            self.refused(InvalidFloor, wrong, moved_floor, wrong, None)
            self.refused(InvalidFloor, wrong, nearest, wrong, HERE)

    def test_wrong_places(self):
        for wrong in WRONG_PLACES:
            for function in (has, moved_floor, nearest):
                self.refused(InvalidPlace, wrong, function, FLOOR, wrong)
            self.refused(InvalidPlace, wrong, mate_of, 2, wrong)
            self.refused(InvalidPlace, wrong, point_of, wrong)
            self.refused(InvalidPlace, wrong, turned_about, wrong)
            self.refused(InvalidPlace, wrong, added, wrong, "other")
            self.refused(InvalidPlace, wrong, added, HERE, wrong)

    def test_wrong_kinds_come_behind_wrong_places(self):
        for wrong in (None, True, 4, "2", 2.0):
            self.refused(InvalidKind, wrong, mate_of, wrong, HERE)
            self.refused(InvalidPlace, [], mate_of, wrong, [])

    def test_wrong_boxes(self):
        for wrong in WRONG_BOXES:
            self.refused(InvalidBox, wrong, places, FLOOR, wrong)
        # Which of two ends is the greater one hangs on the kind.
        between = ((0, 1, 1), (0, 0, 1), (3, 0, 2), (1, 0, 1))
        self.assertEqual(places(FLOOR, between), [])
        self.refused(InvalidBox, between, places, (3, SQUARE), between)


def around(floor, place, radius):
    """The places of a floor that are no further from a place than a radius, by moved floors and boxes."""
    back = moved_floor(floor, turned_about(place))
    return [added(told, place) for told in places(back, box_of(-radius, -radius, radius, radius))]


def places_of_moved(other, place):
    """The places of a moved floor in the moved box, moved back."""
    (a, b), (c, d) = place
    box = ((a - 3, b, 1), (c - 3, d, 1), (a + 3, b, 1), (c + 3, d, 1))
    return sorted(added(told, turned_about(place)) for told in places(other, box))


if __name__ == "__main__":
    unittest.main()

import unittest

from common import BIG, FLOOR, FLOORS, SQUARE, Ways, at, is_deep_tuple, new_source, random_polygon
from test_floors import FAR, WRONG_FLOORS
from test_lines import THIRD
from wholefloors.errors import InvalidFloor, InvalidPair
from wholefloors.floors import moved_floor
from wholefloors.lines import tellable
from wholefloors.lots import lots, tell_each_other
from wholefloors.polygons import moved, polygon


def tell_by_papers(one, other):
    return [tellable(one, other)[0], tellable(other, one)[0]] == ["told", "told"]


class LotsTest(Ways, unittest.TestCase):
    def test_heads(self):
        self.named(tell_each_other, "one", "other")
        self.named(lots, "floors")

    def test_which_tell_each_other(self):
        self.assertIs(self.same_by_name(tell_each_other, FLOOR, BIG), True)
        # The third tells the whole one, not the other way.
        self.assertEqual([tellable(FLOOR, THIRD)[0], tellable(THIRD, FLOOR)[0]], ["never", "told"])
        self.assertEqual([tell_each_other(FLOOR, THIRD), tell_each_other(THIRD, FLOOR)], [False, False])
        for one in FLOORS + [THIRD]:
            self.assertIs(tell_each_other(one, one), True)
            self.assertIs(tell_each_other(one, moved_floor(one, FAR)), True)
            for other in FLOORS + [THIRD]:
                if one[0] == other[0]:
                    self.assertIs(self.same_by_name(tell_each_other, one, other), tell_by_papers(one, other))

    def test_lots_of_none_and_of_one(self):
        self.assertEqual(self.same_by_name(lots, ()), ())
        for floor in FLOORS:
            self.assertEqual(self.same_by_name(lots, (floor,)), ((0,),))
            self.assertEqual(lots((floor, floor)), ((0, 1),))

    def test_lots(self):
        self.assertEqual(self.same_by_name(lots, (FLOOR, THIRD, BIG)), ((0, 2), (1,)))
        self.assertEqual(lots((THIRD, FLOOR, moved_floor(THIRD, ((1, 1), (5, 0))), BIG, THIRD)), ((0, 2, 4), (1, 3)))
        self.assertTrue(is_deep_tuple(lots((THIRD, FLOOR, BIG))))

    def test_all_floors_of_a_kind(self):
        source = new_source(61)
        for kind in (2, 3, 5):
            own = [floor for floor in FLOORS + [THIRD] if floor[0] == kind]
            own += [(kind, random_polygon(source, kind, 2)) for _ in range(2)]
            own += [moved_floor(floor, ((2, -1), (0, 7))) for floor in own[:2]]
            self.check_lots(tuple(own[:8]))
            self.check_lots(tuple(own[::-1][:8]))

    def check_lots(self, floors):
        told = self.same_by_name(lots, floors)
        self.assertEqual(sorted(at for lot in told for at in lot), list(range(len(floors))))
        self.assertEqual(list(told), sorted(told))
        for lot in told:
            self.assertEqual(list(lot), sorted(lot))
        together = {at: lot for lot in told for at in lot}
        for i, one in enumerate(floors):
            for j, other in enumerate(floors):
                self.assertIs(tell_by_papers(one, other), together[i] == together[j])

    def test_numbers_of_any_size(self):
        n = 10 ** 45
        one = (2, moved(2, SQUARE, ((1, 0, n), (0, 1, n + 1))))
        other = (2, moved(2, BIG[1], ((n + 1, n, n), (0, n + 2, n + 1))))
        beside = (2, moved(2, SQUARE, ((1, 0, n + 1), (0, 1, n + 1))))
        self.assertEqual(lots((one, other, beside, FLOOR)), ((0, 1), (2,), (3,)))

    def test_wrong_floors_come_first(self):
        five = (5, SQUARE)
        for wrong in WRONG_FLOORS:
            self.refused(InvalidFloor, wrong, tell_each_other, wrong, "other")
            self.refused(InvalidFloor, wrong, tell_each_other, FLOOR, wrong)
            self.refused(InvalidFloor, wrong, lots, (wrong, "other"))
            self.refused(InvalidFloor, wrong, lots, (FLOOR, five, wrong, None))

    def test_what_is_no_tuple(self):
        for wrong in (None, True, 7, "text", [FLOOR], [], {FLOOR: 1}):
            self.refused(InvalidFloor, wrong, lots, wrong)

    def test_unlike_kinds(self):
        three, five = (3, SQUARE), (5, polygon(5, [at(0, 0), at(1, 0), at(0, 1)]))
        self.refused(InvalidPair, (FLOOR, five), tell_each_other, FLOOR, five)
        self.refused(InvalidPair, (five, FLOOR), tell_each_other, five, FLOOR)
        self.refused(InvalidPair, (FLOOR, three), lots, (FLOOR, BIG, three, five))
        self.refused(InvalidPair, (five, three), lots, (five, three, FLOOR))


if __name__ == "__main__":
    unittest.main()

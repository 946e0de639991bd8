import unittest

from common import BIG, FLOOR, FLOORS, HERE, KINDS, NONSENSE, Ways, at, box_of, less_places, new_source, places_by_hand, size_by_hand
from test_floors import FAR, WRONG_BOXES, WRONG_FLOORS, WRONG_PLACES
from wholefloors.errors import InvalidBox, InvalidFloor, InvalidKind, InvalidPlace, InvalidSaying, NotInFloor
from wholefloors.floors import added, has, moved_floor, places
from wholefloors.patches import patch_of
from wholefloors.polygons import polygon
from wholefloors.sayings import holds, is_saying, reach, true_places

ALL = ("all",)
RIGHT = ((1, 0), (0, 0))
UP = ((0, 0), (1, 0))
ASLANT = ((-1, 1), (0, -1))
BESIDE = ("has", RIGHT)
SAYINGS = [
    ALL, BESIDE, ("has", HERE), ("has", ASLANT), ("step", RIGHT, BESIDE), ("step", ASLANT, ALL), ("step", UP, ("not", BESIDE)),
    ("not", ALL), ("not", BESIDE), ("both", BESIDE, ("has", UP)), ("either", BESIDE, ("not", ("has", UP))),
    ("some", 0, BESIDE), ("some", 1, BESIDE), ("some", 2, ("not", ALL)), ("some", 1, ("some", 1, ("not", BESIDE))),
    ("many", 1, 0, ("not", ALL)), ("many", 0, 1, ALL), ("many", 0, 2, ALL), ("many", 1, 2, ALL), ("many", 1, 4, BESIDE),
    ("many", 2, 7, ("either", BESIDE, ("has", UP))), ("many", 1, 10 ** 20, ALL),
    ("both", ("many", 1, 3, ALL), ("not", ("many", 1, 5, ALL))),
    ("some", 1, ("step", RIGHT, ("both", BESIDE, ("not", ("has", ((-1, 0), (-1, 0)))))))]
WRONG_SAYINGS = NONSENSE + [
    (), "all", ["all"], ("ALL",), ("every",), ("all", 1), ("all", ()), (("all",),), ("has",), ("has", RIGHT, RIGHT),
    ("has", (1, 0)), ("has", ((1, 0), [0, 0])), ("has", ((True, 0), (0, 0))), ("has", ALL), ("step", RIGHT), ("step", ALL, RIGHT),
    ("step", RIGHT, ["all"]), ("not",), ("not", "all"), ("not", ALL, ALL), ("both", ALL), ("both", ALL, ALL, ALL),
    ("either", ALL, None), ("either", (), ALL), ("some", ALL), ("some", 1), ("some", -1, ALL), ("some", True, ALL),
    ("some", 1.0, ALL), ("some", ALL, 1), ("many", 1, ALL), ("many", 1, -1, ALL), ("many", -1, 1, ALL), ("many", 1, True, ALL),
    ("many", 1, 1, ("has", None)), ("some", 1, ("both", ALL, ("not", ("has", ((0, 0), (0, None))))))]


def true_by_hand(floor, around, saying, place):
    """By [16], word for word, of all places of a floor far enough around."""
    word, *rest = saying

    def is_true(inner, there):
        return true_by_hand(floor, around, inner, there)

    if word == "all":
        return True
    if word == "has":
        return added(place, rest[0]) in around
    if word == "step":
        return added(place, rest[0]) in around and is_true(rest[1], added(place, rest[0]))
    if word == "not":
        return not is_true(rest[0], place)
    if word == "both":
        return is_true(rest[0], place) and is_true(rest[1], place)
    if word == "either":
        return is_true(rest[0], place) or is_true(rest[1], place)
    near = [told for told in around if size_by_hand(floor[0], less_places(told, place)) <= rest[0]]
    many = sum(is_true(rest[-1], told) for told in near)
    return many >= (rest[1] if word == "many" else 1)


class SayingsTest(Ways, unittest.TestCase):
    def test_heads(self):
        self.named(is_saying, "told")
        self.named(reach, "kind", "saying")
        self.named(holds, "floor", "saying", "place")
        self.named(true_places, "floor", "saying", "box")

    def test_what_is_a_saying(self):
        for saying in SAYINGS:
            self.assertIs(self.same_by_name(is_saying, saying), True, saying)
        for wrong in WRONG_SAYINGS:
            self.assertIs(is_saying(wrong), False, wrong)
            self.assertIs(is_saying(("not", wrong)), False, wrong)
            self.assertIs(is_saying(("both", ALL, wrong)), False, wrong)

    def test_reaches(self):
        # w is between 1 and 2 in all kinds, w less 1 within 1, and w less 2 too.
        for saying, expected in (
                (ALL, 0), (BESIDE, 1), (("has", HERE), 0), (("has", ((0, 1), (0, 0))), 2), (("has", ((0, 0), (-1, 1))), 1),
                (("has", ((-3, 0), (0, 1))), 3), (("step", RIGHT, BESIDE), 2), (("step", ((0, 0), (0, -1)), BESIDE), 3),
                (("not", BESIDE), 1), (("both", BESIDE, ("has", ((0, 1), (0, 0)))), 2), (("either", BESIDE, ALL), 1),
                (("some", 1, ("not", BESIDE)), 2), (("some", 0, ALL), 0), (("many", 3, 9, BESIDE), 4),
                (("some", 1, ("some", 2, ("both", ALL, ("step", RIGHT, ALL)))), 4)):
            for kind in KINDS:
                self.assertEqual(self.same_by_name(reach, kind, saying), expected)
        self.assertEqual([reach(kind, ("has", ((0, 0), (0, 4)))) for kind in KINDS], [6, 7, 7])
        self.assertEqual([reach(kind, ("has", ((-4, 3), (1, 0)))) for kind in KINDS], [1, 2, 1])

    def test_truth_by_hand(self):
        for floor in FLOORS:
            around = set(places_by_hand(floor, -7, -7, 7, 7))
            inner = places(floor, box_of(-2, -2, 2, 2))
            for saying in SAYINGS:
                expected = [place for place in inner if true_by_hand(floor, around, saying, place)]
                self.assertEqual(true_places(floor, saying, box_of(-2, -2, 2, 2)), expected, saying)
                for place in inner[::4]:
                    self.assertIs(holds(floor, saying, place), place in expected)
        self.assertIs(self.same_by_name(holds, BIG, BESIDE, HERE), True)
        self.same_by_name(true_places, BIG, BESIDE, box_of(-2, -2, 2, 2))

    def test_examples_of_words(self):
        self.assertEqual(true_places(BIG, ("not", BESIDE), box_of(0, 0, 1, 1)), [RIGHT, ((1, 0), (1, 0))])
        self.assertEqual(true_places(BIG, ("not", ALL), box_of(-9, -9, 9, 9)), [])
        self.assertEqual(true_places(FLOOR, BESIDE, box_of(-9, -9, 9, 9)), [])
        self.assertIs(holds(FLOOR, ("some", 1, ALL), HERE), True)
        self.assertIs(holds(FLOOR, ("many", 1, 2, ALL), HERE), False)
        self.assertIs(holds(FLOOR, ("many", 0, 0, ("not", ALL)), HERE), True)

    def test_what_is_true_hangs_on_the_patch_to_the_reach(self):
        for floor in FLOORS[2:6]:
            for saying in SAYINGS[:12]:
                told = {}
                for place in places(floor, box_of(-5, -5, 5, 5)):
                    patch = patch_of(floor, place, reach(floor[0], saying))
                    self.assertIs(told.setdefault(patch, holds(floor, saying, place)), holds(floor, saying, place))

    def test_floors_moved_far_away(self):
        far = ((3999, -4000), (4000, 3998))
        for floor in FLOORS[2:6]:
            other = moved_floor(floor, far)
            for saying in SAYINGS:
                for place in places(floor, box_of(-3, -3, 3, 3))[::3]:
                    self.assertIs(holds(other, saying, added(place, far)), holds(floor, saying, place))

    def test_boxes(self):
        for floor in FLOORS:
            self.assertEqual(true_places(floor, ALL, box_of(-5, -5, 5, 5)), places(floor, box_of(-5, -5, 5, 5)))
        self.assertEqual(true_places(BIG, BESIDE, ((0, 0, 1), (0, 0, 1), (0, 0, 1), (0, 0, 1))), [HERE])
        self.assertEqual(true_places(BIG, BESIDE, ((1, 0, 2), (0, 0, 1), (1, 0, 2), (50, 0, 1))), [])

    def test_deep_sayings(self):
        saying = BESIDE
        for _ in range(40):
            saying = ("not", ("some", 0, saying))
        self.assertIs(is_saying(saying), True)
        self.assertEqual(reach(2, saying), 1)
        self.assertIs(holds(BIG, saying, HERE), True)
        self.assertIs(is_saying(("not", saying[:1])), False)
        wide = (5, polygon(5, [at(-1, -1), at(1, -1), at(1, 2), at(-1, 2)]))
        nested = ("some", 1, ("some", 1, ("some", 1, ("some", 1, ("not", ALL)))))
        self.assertEqual(true_places(wide, nested, box_of(-5, -5, 5, 5)), [])

    def test_lists_are_new(self):
        box = box_of(0, 0, 1, 1)
        true_places(BIG, BESIDE, box).clear()
        self.assertEqual(len(true_places(BIG, BESIDE, box)), 2)

    def test_wrong_kinds(self):
        for wrong in (None, True, 4, "2", 2.0, (2,)):
            self.refused(InvalidKind, wrong, reach, wrong, BESIDE)
            self.refused(InvalidKind, wrong, reach, wrong, None)

    def test_wrong_floors_come_first(self):
        for wrong in WRONG_FLOORS:
            self.refused(InvalidFloor, wrong, holds, wrong, None, None)
            self.refused(InvalidFloor, wrong, true_places, wrong, BESIDE, None)

    def test_wrong_sayings(self):
        for wrong in WRONG_SAYINGS:
            self.refused(InvalidSaying, wrong, reach, 2, wrong)
            self.refused(InvalidSaying, wrong, holds, BIG, wrong, None)
            self.refused(InvalidSaying, wrong, true_places, BIG, wrong, None)
        # What is wrong deep inside is told with the whole saying.
        deep = ("not", ("both", ALL, ("some", 1, ("has", None))))
        self.refused(InvalidSaying, deep, holds, BIG, deep, HERE)

    def test_wrong_places(self):
        for wrong in WRONG_PLACES:
            self.refused(InvalidPlace, wrong, holds, BIG, BESIDE, wrong)
        for place in (((2, 0), (0, 0)), ((0, 0), (-1, 0)), FAR):
            self.assertFalse(has(BIG, place))
            self.refused(NotInFloor, place, holds, BIG, ("not", ALL), place)

    def test_wrong_boxes(self):
        for wrong in WRONG_BOXES:
            self.refused(InvalidBox, wrong, true_places, BIG, BESIDE, wrong)

    def test_random_sayings(self):
        source = new_source(14)
        for floor in FLOORS[2:7]:
            around = set(places_by_hand(floor, -7, -7, 7, 7))
            for _ in range(10):
                saying = random_saying(source, 3)
                if reach(floor[0], saying) > 5:
                    continue
                expected = [place for place in places(floor, box_of(-1, -1, 1, 1))
                            if true_by_hand(floor, around, saying, place)]
                self.assertEqual(true_places(floor, saying, box_of(-1, -1, 1, 1)), expected, saying)


def random_saying(source, depth):
    word = source.choice(["all", "has"] if depth == 0 else ["has", "step", "not", "both", "either", "some", "many"])
    step = source.choice([RIGHT, UP, ASLANT, ((0, 0), (-1, 0)), ((-1, 0), (1, 0))])
    inner = [random_saying(source, depth - 1) for _ in range(2)] if depth else []
    return {"all": lambda: ALL, "has": lambda: ("has", step), "step": lambda: ("step", step, inner[0]),
            "not": lambda: ("not", inner[0]), "both": lambda: ("both", *inner), "either": lambda: ("either", *inner),
            "some": lambda: ("some", source.randint(0, 1), inner[0]),
            "many": lambda: ("many", 1, source.randint(0, 3), inner[0])}[word]()


if __name__ == "__main__":
    unittest.main()

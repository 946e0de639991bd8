import unittest
from itertools import combinations, product

from common import BIG, FLOOR, FLOORS, HERE, SQUARE, Ways, box_of, is_deep_tuple, new_source
from test_floors import FAR, WRONG_FLOORS, WRONG_PLACES
from test_sayings import ALL, BESIDE, RIGHT, SAYINGS, UP, WRONG_SAYINGS
from test_truths import ABOVE, FORTY, NONE, ONE, SOME, ZERO, few
from wholefloors.colours import colour_of, colours, follows, least_sayings, not_following
from wholefloors.errors import InvalidFloor, InvalidPlace, InvalidSaying, NotInFloor
from wholefloors.fields import compared, plus
from wholefloors.floors import added, has, moved_floor, places
from wholefloors.sayings import holds, reach
from wholefloors.truths import saying_share

LEFT = ("has", ((-1, 0), (0, 0)))
SIX = (BESIDE, ABOVE, LEFT, BESIDE, ("either", ABOVE, LEFT), ("some", 1, ("both", BESIDE, ABOVE)))
WRONG_TUPLES = [None, True, 0, "all", [], [ALL], {}, {"all": 1}, b"all"]


def joint(sayings, colour):
    """The saying that is true of the places of a colour."""
    told = ALL
    for saying, one in zip(sayings, colour):
        told = ("both", told, saying if one else ("not", saying))
    return told


def tuples_for(floor, seed, many=6):
    """Tuples of up to six sayings, of a reach of at most 2."""
    source = new_source(seed)
    good = [saying for saying in SAYINGS if reach(floor[0], saying) <= 2 and few(saying, floor)]
    return [()] + [tuple(source.choice(good) for _ in range(source.randint(1, 6))) for _ in range(many)]


class ColoursTest(Ways, unittest.TestCase):
    def test_heads(self):
        self.named(colour_of, "floor", "sayings", "place")
        self.named(colours, "floor", "sayings")
        for function in (follows, not_following, least_sayings):
            self.named(function, "floor", "sayings", "saying")

    def test_colours_of_places(self):
        for floor in FLOORS + SOME:
            for sayings in tuples_for(floor, 151, 3):
                for place in places(floor, box_of(-3, -3, 3, 3))[::3]:
                    colour = self.same_by_name(colour_of, floor, sayings, place)
                    self.assertTrue(is_deep_tuple(colour))
                    self.assertEqual(colour, tuple(1 if holds(floor, saying, place) else 0 for saying in sayings))
        self.assertEqual(colour_of(BIG, (BESIDE, ABOVE), HERE), (1, 1))
        self.assertEqual(colour_of(BIG, (), RIGHT), ())
        self.assertEqual(colour_of(BIG, SIX, RIGHT), (0, 1, 1, 0, 1, 1))

    def test_all_colours_come_with_their_shares(self):
        for floor in FLOORS[:5] + SOME:
            for sayings in tuples_for(floor, 152, 4):
                told = self.same_by_name(colours, floor, sayings)
                self.assertIs(type(told), list)
                self.assertTrue(is_deep_tuple(tuple(told)))
                self.assertEqual(told, sorted(told))
                total = ZERO
                for colour, share in told:
                    total = plus(total, share)
                    self.assertEqual(compared(floor[0], share, ZERO), 1)
                    self.assertEqual(saying_share(floor, joint(sayings, colour)), share)
                self.assertEqual(total, ONE)
                mine = {colour for colour, _ in told}
                self.assertEqual(len(mine), len(told))
                for place in places(floor, box_of(-4, -4, 4, 4)):
                    self.assertIn(colour_of(floor, sayings, place), mine)

    def test_colours_of_the_document(self):
        quarter = (1, 0, 4)
        self.assertEqual(colours(BIG, (BESIDE, ABOVE)), [(colour, quarter) for colour in product((0, 1), (0, 1))])
        self.assertEqual(colours(BIG, ()), [((), ONE)])
        self.assertEqual(colours(BIG, (ALL, NONE)), [((1, 0), ONE)])
        self.assertEqual(colours(FLOOR, (BESIDE, ALL)), [((0, 1), ONE)])
        self.assertEqual(colours(BIG, (BESIDE, BESIDE, ("not", BESIDE))), [((0, 0, 1), (1, 0, 2)), ((1, 1, 0), (1, 0, 2))])
        self.assertEqual(colours(BIG, SIX), [((0, 0, 1, 0, 1, 1), quarter), ((0, 1, 1, 0, 1, 1), quarter),
                                             ((1, 0, 0, 1, 0, 1), quarter), ((1, 1, 0, 1, 1, 1), quarter)])

    def test_what_follows(self):
        for floor in FLOORS[:5] + SOME:
            for at, sayings in enumerate(tuples_for(floor, 153)):
                for saying in [BESIDE, ("not", sayings[0]) if sayings else ALL, SAYINGS[(5 * at) % len(SAYINGS)]]:
                    if reach(floor[0], saying) <= 2 and few(saying, floor):
                        self.check_following(floor, sayings, saying)

    def check_following(self, floor, sayings, saying):
        """By its colours with the saying: it follows if no colour comes with both."""
        both = [colour[:-1] for colour, _ in colours(floor, sayings + (saying,))]
        expected = len(both) == len(set(both))
        self.assertIs(self.same_by_name(follows, floor, sayings, saying), expected)
        pair = self.same_by_name(not_following, floor, sayings, saying)
        self.assertEqual(pair is None, expected)
        if pair is not None:
            x, y = pair
            self.assertTrue(is_deep_tuple(pair))
            self.assertTrue(has(floor, x) and has(floor, y))
            self.assertEqual(colour_of(floor, sayings, x), colour_of(floor, sayings, y))
            self.assertEqual([holds(floor, saying, x), holds(floor, saying, y)], [True, False])
        least = self.same_by_name(least_sayings, floor, sayings, saying)
        good = [some for size in range(len(sayings) + 1) for some in combinations(range(len(sayings)), size)
                if follows(floor, tuple(sayings[at] for at in some), saying)]
        self.assertEqual(least, good[0] if good else None)
        self.assertEqual(least is None, not expected)
        self.assertTrue(is_deep_tuple(least))

    def test_what_follows_on_the_big_square(self):
        for sayings, saying, expected in (
                ((BESIDE,), ("not", BESIDE), (0,)), ((BESIDE,), ABOVE, None), ((), ALL, ()), ((), NONE, ()), ((), BESIDE, None),
                ((BESIDE, ABOVE), ALL, ()), ((ABOVE, BESIDE, ("both", ABOVE, BESIDE)), ("not", ABOVE), (0,)),
                ((ABOVE, BESIDE), ("both", ABOVE, BESIDE), (0, 1)), ((ABOVE, BESIDE, ("both", ABOVE, BESIDE)), ("both", BESIDE, ABOVE), (2,)),
                ((BESIDE, BESIDE), BESIDE, (0,)), ((ABOVE, LEFT, BESIDE), BESIDE, (1,)), (SIX, ("both", BESIDE, ABOVE), (0, 1)),
                (SIX, ("either", BESIDE, ("not", ABOVE)), (0, 1)), ((("both", ABOVE, BESIDE),), BESIDE, None), ((ALL, NONE), ABOVE, None)):
            self.assertEqual(least_sayings(BIG, sayings, saying), expected, (sayings, saying))
            self.assertIs(follows(BIG, sayings, saying), expected is not None)

    def test_moved_floors(self):
        for floor in (BIG, SOME[0]):
            for move in (FAR, FORTY):
                other = moved_floor(floor, move)
                self.assertEqual(colours(other, SIX[:4]), colours(floor, SIX[:4]))
                self.assertEqual(least_sayings(other, SIX, ABOVE), least_sayings(floor, SIX, ABOVE))
                place = places(floor, box_of(-5, -5, 5, 5))[0]
                self.assertEqual(colour_of(other, SIX, added(place, move)), colour_of(floor, SIX, place))

    def test_lists_are_new(self):
        colours(BIG, (BESIDE,)).clear()
        self.assertEqual(len(colours(BIG, (BESIDE,))), 2)

    def test_wrong_floors_come_first(self):
        for wrong in WRONG_FLOORS:
            self.refused(InvalidFloor, wrong, colour_of, wrong, None, None)
            self.refused(InvalidFloor, wrong, colours, wrong, [])
            for function in (follows, not_following, least_sayings):
                self.refused(InvalidFloor, wrong, function, wrong, (None,), ())

    def test_wrong_sayings(self):
        for wrong in WRONG_TUPLES:
            self.refused(InvalidSaying, wrong, colour_of, BIG, wrong, None)
            self.refused(InvalidSaying, wrong, colours, BIG, wrong)
            for function in (follows, not_following, least_sayings):
                self.refused(InvalidSaying, wrong, function, BIG, wrong, None)
        for wrong in WRONG_SAYINGS:
            self.refused(InvalidSaying, wrong, colour_of, BIG, (ALL, wrong, None), None)
            self.refused(InvalidSaying, wrong, colours, BIG, (wrong, ()))
            for function in (follows, not_following, least_sayings):
                self.refused(InvalidSaying, wrong, function, (3, SQUARE), (ALL, BESIDE, wrong, "all"), ())
                self.refused(InvalidSaying, wrong, function, BIG, (ALL, BESIDE), wrong)
                self.refused(InvalidSaying, wrong, function, BIG, (), wrong)

    def test_wrong_places(self):
        for wrong in WRONG_PLACES:
            self.refused(InvalidPlace, wrong, colour_of, BIG, (BESIDE,), wrong)
        for place in (((2, 0), (0, 0)), ((0, 0), (-1, 0)), FAR):
            self.refused(NotInFloor, place, colour_of, BIG, (), place)
        self.assertEqual(colour_of(BIG, (BESIDE,), UP), (1,))


if __name__ == "__main__":
    unittest.main()

import unittest

from common import BIG, FLOOR, FLOORS, HERE, NONSENSE, SQUARE, Ways, new_source
from test_floors import WRONG_FLOORS
from test_lines import THIRD
from test_patches import PATCH
from test_rows import ROW, ROWS, WRONG_ROWS
from test_sayings import ALL, BESIDE, RIGHT, UP
from test_truths import SOME
from wholefloors.alikes import alike
from wholefloors.consoles import Console
from wholefloors.errors import (
    FloorError, InvalidFloor, InvalidName, InvalidPair, InvalidPatch, InvalidRadius, InvalidNumber, InvalidRow, InvalidUnit, NoPatch, NotInFloor,
    NotTold, NothingToUndo, Unorderly, Unreadable, UnknownName, WrongKind)
from wholefloors.floors import density, has, moved_floor
from wholefloors.lines import tellable
from wholefloors.patches import patches
from wholefloors.pictures import drawn
from wholefloors.readers import read_floor, read_row, read_rule
from wholefloors.returns import again
from wholefloors.rows import gaps, stretched_row, words
from wholefloors.sayings import holds, reach
from wholefloors.stretches import stretched
from wholefloors.texts import show_floor, show_number, show_place, show_places, show_point, show_row, show_rule, show_saying, show_whole, show_word
from wholefloors.told import spread, telling_rule, tells
from wholefloors.truths import again_true, decided, implies, saying_share

GOOD_NAMES = ["a", "z", "floor", "row", "names", "undo", "abcdefgh", "zzzzzzzz"]
BAD_NAMES = [wrong for wrong in NONSENSE if wrong != "text"] + ["", "abcdefghi", "A", "aB", "a1", "a b", " a", "a ", "a-b", "a_b", "a\n", "\u00e4", "1", "-", 0, 1, ("a",), ["a"], False]
SAYINGS = [ALL, ("not", ALL), BESIDE, ("has", UP), ("some", 1, BESIDE), ("many", 1, 4, ALL), ("both", BESIDE, ("not", ("has", UP))),
           ("step", RIGHT, ("either", ("has", UP), ALL))]
UNITS = {2: (3, 2), 3: (2, 1), 5: (1, 1)}


def full():
    """A console with some floors and rows."""
    console = Console()
    for name, floor in (("one", FLOOR), ("big", BIG), ("third", THIRD), ("five", FLOORS[7]), ("three", FLOORS[3]), ("square", (5, SQUARE))):
        console.keep_floor(name, floor)
    console.keep_row("row", ROW)
    console.keep_row("long", ROWS[4])
    return console


class Model:
    """A console by hand: all that has been is kept whole."""

    def __init__(self):
        self.past = [{}]

    def keep(self, name, thing):
        self.past.append({**self.past[-1], name: thing})

    def drop(self, name):
        self.past.append({key: thing for key, thing in self.past[-1].items() if key != name})

    def names(self):
        return sorted((name, "floor" if len(thing) == 2 else "row") for name, thing in self.past[-1].items())


class ConsolesTest(Ways, unittest.TestCase):
    def test_heads(self):
        for method, names in (("keep_floor", ("self", "name", "floor")), ("keep_row", ("self", "name", "row")), ("drop", ("self", "name")),
                              ("undo", ("self",)), ("floor", ("self", "name")), ("row", ("self", "name")), ("names", ("self",)), ("order", ("self", "text"))):
            self.assertIn(method, vars(Console))
            self.named(vars(Console)[method], *names)
        console = Console()
        self.assertIsNone(console.keep_floor(name="a", floor=FLOOR))
        self.assertIsNone(console.keep_row(name="b", row=ROW))
        self.assertEqual([console.floor(name="a"), console.row(name="b"), console.order(text="names")], [FLOOR, ROW, "a floor\nb row"])
        self.assertIsNone(console.drop(name="a"))
        self.assertIsNone(console.undo())

    def state(self, console):
        return [(name, what, console.floor(name) if what == "floor" else console.row(name)) for name, what in console.names()]

    def refused_here(self, error, value, console, method, *values):
        """A call raises just this, and changes nothing."""
        before = self.state(console)
        self.refused(error, value, getattr(console, method), *values)
        self.assertEqual(self.state(console), before)

    def refused_order(self, error, value, text, console=None):
        self.refused_here(error, value, console or full(), "order", text)

    def test_what_is_kept(self):
        console = Console()
        self.assertEqual(console.names(), [])
        for at, name in enumerate(GOOD_NAMES):
            if at % 2:
                console.keep_floor(name, FLOORS[at])
                self.assertEqual(console.floor(name), FLOORS[at])
            else:
                console.keep_row(name, ROWS[at])
                self.assertEqual(console.row(name), ROWS[at])
        self.assertEqual(console.names(), [("a", "row"), ("abcdefgh", "row"), ("floor", "row"), ("names", "row"), ("row", "floor"), ("undo", "floor"),
                                           ("z", "floor"), ("zzzzzzzz", "floor")])
        console.names().clear()
        self.assertEqual(len(console.names()), 8)

    def test_one_name_for_one_thing(self):
        console = Console()
        console.keep_floor("a", FLOOR)
        console.keep_floor("a", BIG)
        self.assertEqual([console.floor("a"), console.names()], [BIG, [("a", "floor")]])
        console.keep_row("a", ROW)
        self.assertEqual([console.row("a"), console.names()], [ROW, [("a", "row")]])
        self.refused_here(WrongKind, "a", console, "floor", "a")
        console.undo()
        self.assertEqual(console.floor("a"), BIG)
        self.refused_here(WrongKind, "a", console, "row", "a")
        console.undo()
        self.assertEqual(console.floor("a"), FLOOR)
        console.undo()
        self.assertEqual(console.names(), [])
        self.refused_here(NothingToUndo, 0, console, "undo")

    def test_dropped_things_come_back(self):
        console = full()
        before = self.state(console)
        console.drop("row")
        console.drop("big")
        self.refused_here(UnknownName, "row", console, "row", "row")
        self.refused_here(UnknownName, "big", console, "drop", "big")
        console.keep_row("big", ROW)
        for _ in range(3):
            console.undo()
        self.assertEqual(self.state(console), before)
        for _ in range(8):
            console.undo()
        self.assertEqual(console.names(), [])
        self.refused_here(NothingToUndo, 0, console, "undo")

    def test_two_consoles_are_two(self):
        one, other = full(), Console()
        self.assertEqual(other.names(), [])
        other.keep_row("one", ROW)
        self.assertEqual(one.floor("one"), FLOOR)

    def test_random_calls_by_hand(self):
        source = new_source(191)
        for _ in range(15):
            console, model = Console(), Model()
            for _ in range(60):
                self.one_call(source, console, model)
                self.assertEqual(console.names(), model.names())
                self.assertEqual(self.state(console), [(name, what, model.past[-1][name]) for name, what in model.names()])

    def one_call(self, source, console, model):
        name = source.choice(["a", "b", "cc"])
        now = model.past[-1]
        what = source.randint(0, 7)
        if what == 0:
            console.keep_floor(name, FLOORS[what])
            model.keep(name, FLOORS[what])
        elif what == 1:
            row = source.choice(ROWS)
            console.keep_row(name, row)
            model.keep(name, row)
        elif what == 2:
            self.assertEqual(console.order(f"row {name} 5 0 1"), "done")
            model.keep(name, ROW)
        elif what == 3:
            self.assertEqual(console.order(f"floor {name}\n" + show_floor(BIG)), "done")
            model.keep(name, BIG)
        elif what == 4 and name in now:
            console.drop(name) if source.randint(0, 1) else console.order("drop " + name)
            model.drop(name)
        elif what == 5 and len(now.get(name, ())) == 2:
            console.order(f"moved {name} {name} 1 0")
            model.keep(name, moved_floor(now[name], RIGHT))
        elif what == 6 and len(model.past) > 1:
            console.undo() if source.randint(0, 1) else self.assertEqual(console.order("undo"), "done")
            model.past.pop()
        elif what == 7:
            # What is refused changes nothing, and is not undone.
            for text in ("drop zz", f"row {name} 5 1 0", f"floor {name}\nfloor 2", "undo 1", f"stretched {name} {name} 1+1w"):
                self.assertRaises(FloorError, console.order, text)

    def test_undo_behind_refused_orders(self):
        console = Console()
        console.order("row a 5 0 1")
        for text in ("row b 5 1 0", "drop b", "floor b\nfloor 2", "long b a 1", "keep a", "show b", "moved b a 0 0"):
            self.assertRaises(FloorError, console.order, text)
        console.order("show a")
        self.assertEqual(console.order("undo"), "done")
        self.assertEqual(console.order("names"), "none")
        self.refused_order(NothingToUndo, 0, "undo", console)

    def test_keeping_orders(self):
        console = Console()
        for floor in FLOORS:
            self.assertEqual(console.order("floor f\n" + show_floor(floor)), "done")
            self.assertEqual(console.floor("f"), floor)
            self.assertEqual(console.order("show f"), show_floor(floor))
            self.assertEqual(console.order("moved g f 3-1w 0+2w"), "done")
            self.assertEqual(console.floor("g"), moved_floor(floor, ((3, -1), (0, 2))))
            self.assertEqual(console.order("stretched f f " + show_whole(UNITS[floor[0]])), "done")
            self.assertEqual(console.floor("f"), stretched(floor, UNITS[floor[0]]))
        for row in ROWS[:8]:
            self.assertEqual(console.order("row r " + show_row(row)[4:]), "done")
            self.assertEqual(console.row("r"), row)
            self.assertEqual(console.order("show r"), show_row(row))
            self.assertEqual(console.order("long r r " + show_whole(UNITS[row[0]])), "done")
            self.assertEqual(console.row("r"), stretched_row(row, UNITS[row[0]]))
        self.assertEqual(console.order("drop r"), "done")
        self.assertEqual(console.order("names"), "f floor\ng floor")
        self.assertEqual(Console().order("names"), "none")

    def test_answers_about_floors(self):
        console = full()
        for name in ("one", "big", "three", "five"):
            floor = console.floor(name)
            for place in (HERE, RIGHT, ((1, -1), (2, 3))):
                self.assertEqual(console.order(f"has {name} {show_place(place)}"), "yes" if has(floor, place) else "no")
            self.assertEqual(console.order("density " + name), show_number(density(floor)))
            for r in (0, 1):
                lines = [show_number(share) + " : " + show_places(patch) for patch, share in patches(floor, r)]
                self.assertEqual(console.order(f"patches {name} {r}"), "\n".join(lines))
            patch = patches(floor, 1)[0][0]
            self.assertEqual(console.order(f"again {name} 1 {show_places(patch)}"), str(again(floor, 1, patch)))
            for left, low, wide, high, size in ((-3, 2, 9, 7, 1), (0, 0, 30, 2, 8), (5, 5, 0, 3, 2), (1, 1, 4, 0, 1)):
                self.assertEqual(console.order(f"drawn {name} {left} {low} {wide} {high} {size}"), "\n".join(drawn(floor, left, low, wide, high, size)))
        self.assertEqual(console.order("again big 1 " + show_places(PATCH)), "1")
        self.assertEqual(console.order("again one 1 -"), "0")
        self.assertEqual(console.order("drawn one 0 0 3 1 1"), "#..")
        self.assertEqual([console.order("grows one 3+2w 0"), console.order("grows square 1+1w 1")], ["no", "yes"])
        console.keep_floor("near", moved_floor(FLOOR, ((1, 1), (0, 0))))
        self.assertEqual([console.order("alike one near"), console.order("alike near one"), console.order("alike one big")], ["1-1w 0", "-1+1w 0", "no"])
        self.assertEqual(console.order("alike one one"), show_point(alike(FLOOR, FLOOR)))

    def test_answers_about_rows(self):
        console = full()
        self.assertEqual(console.order("gaps row"), "0+1w 2-1w\n1+1w -1+1w")
        for name in ("row", "long"):
            row = console.row(name)
            self.assertEqual(console.order("gaps " + name), "\n".join(show_whole(gap) + " " + show_number(share) for gap, share, _ in gaps(row)))
            for n in (0, 1, 5):
                self.assertEqual(console.order(f"words {name} {n}"), "\n".join(show_number(share) + " : " + show_word(told) for told, share in words(row, n)))
        self.assertEqual(console.order("words row 0"), "1 : -")

    def test_answers_about_sayings(self):
        console = full()
        for name in ("one", "big", "three"):
            floor = console.floor(name)
            for saying in SAYINGS:
                text = show_saying(saying)
                self.assertEqual(console.order(f"reach {name} {text}"), str(reach(floor[0], saying)))
                self.assertEqual(console.order(f"true {name} {text}"), decided(floor, saying)[0])
                self.assertEqual(console.order(f"share {name} {text}"), show_number(saying_share(floor, saying)))
                far = again_true(floor, saying)
                self.assertEqual(console.order(f"againtrue {name} {text}"), "no" if far is None else str(far))
                for other in SAYINGS[2:5]:
                    self.assertEqual(console.order(f"implies {name} {text} / {show_saying(other)}"), "yes" if implies(floor, saying, other) else "no")
                    self.assertEqual(console.order(f"implies {name} {show_saying(other)} / {text}"), "yes" if implies(floor, other, saying) else "no")
                for place in (HERE, RIGHT):
                    if has(floor, place):
                        self.assertEqual(console.order(f"holds {name} {show_place(place)} {text}"), "yes" if holds(floor, saying, place) else "no")
        self.assertEqual([console.order("true big (has 1 0)"), console.order("true one (has 1 0)"), console.order("true one (all)")], ["some", "none", "all"])

    def test_answers_about_what_floors_tell(self):
        console = full()
        for one in ("one", "big", "third"):
            for other in ("one", "big", "third"):
                both = console.floor(one), console.floor(other)
                self.assertEqual(console.order(f"spread {one} {other}"), str(spread(*both)))
                self.assertEqual(console.order(f"tellable {one} {other}"), "yes" if tellable(*both)[0] == "told" else "no")
                for r in (0, 1):
                    told = tells(*both, r)
                    self.assertEqual(console.order(f"tells {one} {other} {r}"), "yes" if told else "no")
                    if told:
                        text = console.order(f"rule {one} {other} {r}")
                        self.assertEqual(text, show_rule(telling_rule(*both, r)))
                        self.assertEqual(read_rule(text), telling_rule(*both, r))
                    else:
                        self.refused_order(NotTold, r, f"rule {one} {other} {r}")
        self.assertEqual([console.order("tellable one third"), console.order("rule one one 0")], ["no", "- : 0 0"])

    def test_what_is_shown_is_read_again(self):
        console = Console()
        for floor in FLOORS + SOME:
            console.keep_floor("a", floor)
            console.order("floor b\n" + console.order("show a"))
            self.assertEqual(console.floor("b"), floor)
            self.assertEqual(read_floor(console.order("show b")), floor)
        console.keep_row("a", ROW)
        self.assertEqual(console.order(console.order("show a").replace("row", "row c")), "done")
        self.assertEqual([console.row("c"), read_row(console.order("show c"))], [ROW, ROW])

    def test_what_is_no_order(self):
        good = ["floor a\n" + show_floor(FLOOR), "row a 2 0 1", "moved a one 0 0", "stretched a one 1", "long a row 1+1w", "drop one", "undo", "show one", "has one 0 0",
                "density one", "patches one 1", "again one 1 -", "alike one big", "grows one 3+2w 0", "gaps row", "words row 2", "drawn one 0 0 1 1 1", "reach one (all)",
                "holds one 0 0 (all)", "true one (all)", "share one (all)", "againtrue one (all)", "implies one (all) / (all)", "spread one big", "tells one big 0",
                "rule one big 0", "tellable one big", "names"]
        for text in good:
            full().order(text)
            first, line, rest = text.partition("\n")
            wrong = [first + " ", " " + first, first + " 0", first + " (all)", first.upper(), first.replace(" ", "  ", 1) + "  ", "the " + first, first + ",", first + "x y"]
            # A word too few; no order of one line may have more of them.
            if " " in first:
                wrong += [first.rpartition(" ")[0], first.partition(" ")[2], first.replace(" ", "\n", 1), first.replace(" ", "  ", 1)]
            for told in wrong:
                if told + line + rest in good:
                    continue
                self.refused_order(Unorderly, told + line + rest, told + line + rest)
            if line:
                self.refused_order(Unorderly, first, first)
            else:
                for more in ("\n", "\n\n", "\n" + text, "\nx"):
                    self.refused_order(Unorderly, text + more, text + more)

    def test_parts_that_can_not_be_read(self):
        for text in ("", " ", "\n", "keep a", "floor", "floor \nfloor 2", "Names", "names ", "floor A\n" + show_floor(FLOOR), "floor abcdefghi\n" + show_floor(FLOOR),
                     "floor a b\n" + show_floor(FLOOR), "floor a1\nx", "row a1 2 0 1", "row a two 0 1", "row a 2 0", "row a 2 0 1/1", "row a 2 0 1000000000", "row a 2 00 1", "moved a one 1/2 0",
                     "moved a one 0", "moved a one 0 01", "moved a1 one 0 0", "moved a One 0 0", "stretched a one 1/2", "stretched a one (1+1w)", "stretched a one", "long a row x",
                     "drop", "drop one one", "drop ONE", "drop abcdefghi", "show 1", "show", "has one 1", "has one 1 1/2", "has one x y", "has one 1, 1", "density", "density one 1",
                     "patches one", "patches one x", "patches one 1/2", "patches one 01", "patches one 0+1w", "again one 1", "again one 1 ", "again one 1 0", "again one 1 0 1,1 0", "again one 1 0 1, ",
                     "again one -", "alike one", "alike one 1", "grows one 3+2w", "grows one 0 3+2w", "gaps", "gaps row row", "words row", "words row 1w", "words row -",
                     "drawn one 0 0 1 1", "drawn one 0 0 1 1 1 1", "drawn one 0 0 1 1 1/2", "drawn one 0+1w 0 1 1 1", "drawn one 0 0 -1 1 1000000000", "reach one", "reach one all",
                     "reach one (all", "reach one (has 1)", "reach one  (all)", "holds one 0 (all)", "holds one 0 0", "holds one 0 0 0 (all)", "true one ()", "share one (all) (all)",
                     "againtrue one (some -1 (all))", "implies one (all)", "implies one (all) (all)", "implies one (all)/(all)", "implies one (all) /(all)", "implies one (all) / ",
                     "implies one (all) / (all) / (all)", "implies one / (all)", "spread one", "tells one big", "tells one big x", "rule one big", "rule one 0", "tellable one", "names one", "undo one"):
            self.refused_order(Unorderly, text, text)
        for wrong in (None, 0, True, [], (), b"names", ["names"]):
            self.refused_order(Unorderly, wrong, wrong)
        # What can not be read comes ahead of names of nothing.
        for text in ("has nothing 1", "tells nothing row x", "moved a nothing 1/2 0", "reach nothing (al)"):
            self.refused_order(Unorderly, text, text)

    def test_wrong_names(self):
        console = full()
        for wrong in BAD_NAMES:
            self.refused_here(InvalidName, wrong, console, "keep_floor", wrong, FLOOR)
            self.refused_here(InvalidName, wrong, console, "keep_floor", wrong, None)
            self.refused_here(InvalidName, wrong, console, "keep_row", wrong, ROW)
            self.refused_here(InvalidName, wrong, console, "keep_row", wrong, None)
            for method in ("drop", "floor", "row"):
                self.refused_here(UnknownName, wrong, console, method, wrong)

    def test_wrong_things(self):
        console = full()
        for wrong in WRONG_FLOORS:
            self.refused_here(InvalidFloor, wrong, console, "keep_floor", "one", wrong)
        for wrong in WRONG_ROWS:
            self.refused_here(InvalidRow, wrong, console, "keep_row", "one", wrong)
        self.refused_here(InvalidFloor, ROW, console, "keep_floor", "a", ROW)
        self.refused_here(InvalidRow, FLOOR, console, "keep_row", "a", FLOOR)
        for text, row in (("row a 2 1 0", (2, (1, 0, 1), (0, 0, 1))), ("row a 2 1 1", (2, (1, 0, 1), (1, 0, 1))), ("row one 7 0 1", (7, (0, 0, 1), (1, 0, 1))),
                          ("row a -2 0 1", (-2, (0, 0, 1), (1, 0, 1)))):
            self.refused_order(InvalidRow, row, text)

    def test_names_of_nothing_and_of_other_things(self):
        console = full()
        for name in ("nothing", "a", "zzzzzzzz"):
            for method in ("drop", "floor", "row"):
                self.refused_here(UnknownName, name, console, method, name)
            for text in (f"show {name}", f"drop {name}", f"density {name}", f"gaps {name}", f"moved a {name} 0 0", f"long a {name} 1", f"tells {name} none 0"):
                self.refused_order(UnknownName, name, text)
        self.refused_here(WrongKind, "one", console, "row", "one")
        self.refused_here(WrongKind, "row", console, "floor", "row")
        for text, name in (("density row", "row"), ("gaps one", "one"), ("long a one 1+1w", "one"), ("moved a row 0 0", "row"), ("words big 1", "big"), ("spread row long", "row"),
                           ("spread one long", "long"), ("tells long one 0", "long"), ("reach row (all)", "row"), ("alike one row", "row"), ("patches row -1", "row")):
            self.refused_order(WrongKind, name, text)
        # The first name of nothing from the left comes ahead of all things of the wrong kind.
        for text, name in (("spread row nothing", "nothing"), ("spread one nothing", "nothing"), ("spread nothing none", "nothing"), ("tells none nothing 0", "none"),
                           ("alike row none", "none")):
            self.refused_order(UnknownName, name, text)

    def test_errors_of_readers_and_functions(self):
        lines = show_floor(FLOOR)
        for text, n in (("floor a\n", 1), ("floor a\n\n", 1), ("floor a\n" + lines + "\n", 6), ("floor a\nfloor 2\n0 0\nx\n1 1", 3), ("floor a\nfloor 2", 0), ("floor a\nfloor 7\n0 0", 0),
                        ("floor a\nrow 2 0 1", 1), ("floor a\nfloor 2\n0 0\n1 0", 0), ("floor one\nfloor 2\n0 0\n0 1\n1 0", 0)):
            self.refused_order(Unreadable, n, text)
        for text, error, value in (
                ("stretched a one 1+1w", InvalidUnit, (1, 1)), ("stretched a one 0", InvalidUnit, (0, 0)), ("long a row 1", InvalidUnit, (1, 0)), ("long a row 0+1w", InvalidUnit, (0, 1)),
                ("patches one -1", InvalidRadius, -1), ("again one -1 -", InvalidRadius, -1), ("again big 1 -", NoPatch, ()), ("again big 1 1 0, 0 1", InvalidPatch, (RIGHT, UP)),
                ("again big 1 0 0", InvalidPatch, (HERE,)), ("alike one five", InvalidPair, (FLOOR, FLOORS[7])), ("grows one 1 -1", InvalidUnit, (1, 0)), ("grows one 3+2w -1", InvalidRadius, -1),
                ("words row -2", InvalidRadius, -2), ("drawn one 0 0 -1 -2 0", InvalidNumber, -1), ("drawn one 0 0 1 -2 0", InvalidNumber, -2), ("drawn one 0 0 1 1 0", InvalidNumber, 0),
                ("holds one 1 0 (all)", NotInFloor, RIGHT), ("spread one five", InvalidPair, (FLOOR, FLOORS[7])), ("tells one five -1", InvalidPair, (FLOOR, FLOORS[7])),
                ("tells one big -1", InvalidRadius, -1), ("rule one third 1", NotTold, 1), ("tellable five one", InvalidPair, (FLOORS[7], FLOOR))):
            self.refused_order(error, value, text)


if __name__ == "__main__":
    unittest.main()

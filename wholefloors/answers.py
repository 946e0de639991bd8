"""Orders of one line: what stands in them, and what those that keep nothing answer."""

from wholefloors.alikes import alike
from wholefloors.floors import density, has
from wholefloors.lines import tellable
from wholefloors.patches import patches
from wholefloors.pictures import drawn
from wholefloors.returns import again
from wholefloors.rows import gaps, words
from wholefloors.rules import grows
from wholefloors.sayings import holds, reach
from wholefloors.scans import integer_in, number_in, places_in, saying_in, whole_in
from wholefloors.texts import (
    show_floor, show_integer, show_number, show_places, show_point, show_row, show_rule, show_whole, show_word)
from wholefloors.told import spread, telling_rule, tells
from wholefloors.truths import again_true, decided, implies, saying_share

# What stands behind the word of an order: a name, the name of a floor, a row or any thing that is kept, or a value.
FORMS = {
    "floor": ("name",),
    "row": ("name", "integer", "number", "number"),
    "moved": ("name", "floor", "whole", "whole"),
    "stretched": ("name", "floor", "whole"),
    "long": ("name", "row", "whole"),
    "drop": ("name",),
    "undo": (),
    "show": ("thing",),
    "has": ("floor", "whole", "whole"),
    "density": ("floor",),
    "patches": ("floor", "integer"),
    "again": ("floor", "integer", "places"),
    "alike": ("floor", "floor"),
    "grows": ("floor", "whole", "integer"),
    "gaps": ("row",),
    "words": ("row", "integer"),
    "drawn": ("floor", "integer", "integer", "integer", "integer", "integer"),
    "reach": ("floor", "saying"),
    "holds": ("floor", "whole", "whole", "saying"),
    "true": ("floor", "saying"),
    "share": ("floor", "saying"),
    "againtrue": ("floor", "saying"),
    "implies": ("floor", "sayings"),
    "spread": ("floor", "floor"),
    "tells": ("floor", "floor", "integer"),
    "rule": ("floor", "floor", "integer"),
    "tellable": ("floor", "floor"),
    "names": (),
}
LETTERS = "abcdefghijklmnopqrstuvwxyz"


def is_name(told):
    """True if told is a text of one to eight letters from a to z."""
    return isinstance(told, str) and 1 <= len(told) <= 8 and all(sign in LETTERS for sign in told)


def two_sayings_in(text):
    """The two sayings that a text shows, or None."""
    both = [saying_in(part) for part in text.split(" / ")]
    return None if len(both) != 2 or None in both else tuple(both)


def part_in(what, text):
    """What stands in a text of a sort, or None."""
    if what == "integer":
        return integer_in(text)
    if what == "number":
        return number_in(text)
    if what == "whole":
        return whole_in(text)
    if what == "places":
        return places_in(text)
    if what == "saying":
        return saying_in(text)
    if what == "sayings":
        return two_sayings_in(text)
    return text if is_name(text) else None


def order_in(line):
    """(word, parts) of the line of an order, each part as it is read, names as they are; None if it is none."""
    word = line.split(" ")[0]
    if word not in FORMS:
        return None
    form = FORMS[word]
    # The last part is all that is left: only places and sayings have more than one word.
    texts = line.split(" ", len(form))
    if texts[0] != word or len(texts) != len(form) + 1:
        return None
    parts = []
    for what, text in zip(form, texts[1:]):
        told = part_in(what, text)
        if told is None:
            return None
        parts.append(told)
    return (word, parts)


def _yes_or_no(told):
    """yes or no."""
    return "yes" if told else "no"


def _lines(texts):
    """Some texts, each on a line."""
    return "\n".join(texts)


def _show(thing):
    what, told = thing
    return show_floor(told) if what == "floor" else show_row(told)


def _has(floor, x, y):
    return _yes_or_no(has(floor, (x, y)))


def _density(floor):
    return show_number(density(floor))


def _patches(floor, r):
    return _lines([show_number(share) + " : " + show_places(patch) for patch, share in patches(floor, r)])


def _again(floor, r, patch):
    return show_integer(again(floor, r, patch))


def _alike(one, other):
    move = alike(one, other)
    return "no" if move is None else show_point(move)


def _grows(floor, unit, r):
    return _yes_or_no(grows(floor, unit, r))


def _gaps(row):
    return _lines([show_whole(gap) + " " + show_number(share) for gap, share, _ in gaps(row)])


def _words(row, n):
    return _lines([show_number(share) + " : " + show_word(word) for word, share in words(row, n)])


def _drawn(floor, left, low, wide, high, size):
    return _lines(drawn(floor, left, low, wide, high, size))


def _reach(floor, saying):
    return show_integer(reach(floor[0], saying))


def _holds(floor, x, y, saying):
    return _yes_or_no(holds(floor, saying, (x, y)))


def _true(floor, saying):
    return decided(floor, saying)[0]


def _share(floor, saying):
    return show_number(saying_share(floor, saying))


def _again_true(floor, saying):
    far = again_true(floor, saying)
    return "no" if far is None else show_integer(far)


def _implies(floor, sayings):
    one, other = sayings
    return _yes_or_no(implies(floor, one, other))


def _spread(one, other):
    return show_integer(spread(one, other))


def _tells(one, other, r):
    return _yes_or_no(tells(one, other, r))


def _rule(one, other, r):
    return show_rule(telling_rule(one, other, r))


def _tellable(one, other):
    return _yes_or_no(tellable(one, other)[0] == "told")


ANSWERS = {
    "show": _show,
    "has": _has,
    "density": _density,
    "patches": _patches,
    "again": _again,
    "alike": _alike,
    "grows": _grows,
    "gaps": _gaps,
    "words": _words,
    "drawn": _drawn,
    "reach": _reach,
    "holds": _holds,
    "true": _true,
    "share": _share,
    "againtrue": _again_true,
    "implies": _implies,
    "spread": _spread,
    "tells": _tells,
    "rule": _rule,
    "tellable": _tellable,
}

"""What a line shows, read back: each function returns None of what texts.py does not write so, unchecked beyond it.

What is read is shown again and compared: so there is no other way to write it.
"""

from wholefloors.fields import is_number
from wholefloors.sayings import FORMS
from wholefloors.texts import show_number, show_saying

# The greatest number of figures of an integer that is read.
FIGURES = 9


def integer_in(text):
    """The integer that a text shows."""
    figures = text[1:] if text.startswith("-") else text
    if not 1 <= len(figures) <= FIGURES or figures.strip("0123456789"):
        return None
    n = int(text)
    return n if str(n) == text else None


def count_in(text):
    """The integer from 0 on that a text shows."""
    n = integer_in(text)
    return None if n is None or n < 0 else n


def number_in(text):
    """The number that a text shows."""
    upper, stroke, lower = text.partition("/")
    if stroke and upper.startswith("(") and upper.endswith(")"):
        upper = upper[1:-1]
    a, b = _sum_in(upper)
    told = (a, b, integer_in(lower) if stroke else 1)
    return told if is_number(told) and show_number(told) == text else None


def _sum_in(text):
    """(a, b) of a text A, A+Bw or A-Bw, written anyhow, None for what can not be read."""
    if not text.endswith("w"):
        return integer_in(text), 0
    at = max(text.rfind("+"), text.rfind("-"))
    return integer_in(text[:at]), integer_in(text[at:-1].lstrip("+"))


def whole_in(text):
    """The whole number that a text shows."""
    told = number_in(text)
    return None if told is None or told[2] != 1 else told[:2]


def point_in(text):
    """The point that a text shows."""
    return _all_of(number_in, text.split(" "), 2)


def place_in(text):
    """The place that a text shows."""
    return _all_of(whole_in, text.split(" "), 2)


def places_in(text):
    """The tuple of the places that a text shows."""
    if text == "-":
        return ()
    return _all_of(place_in, text.split(", "), 0)


def word_in(text):
    """The tuple of the indexes that a text shows."""
    if text == "-":
        return ()
    return _all_of(count_in, text.split(" "), 0)


def _all_of(scan, parts, many):
    """The tuple of what some parts show, of so many, if many is not 0."""
    if many and len(parts) != many:
        return None
    found = []
    for part in parts:
        told = scan(part)
        if told is None:
            return None
        found.append(told)
    return tuple(found)


def saying_in(text):
    """The saying that a text shows."""
    # What stands in brackets that are not closed yet, the innermost last.
    waiting = [[]]
    for part in text.replace("(", " ( ").replace(")", " ) ").split():
        if part == "(":
            waiting.append([])
        elif part == ")":
            saying = _saying_of(waiting.pop())
            if saying is None or not waiting:
                return None
            waiting[-1].append(saying)
        else:
            waiting[-1].append(part)
    if len(waiting) != 1 or len(waiting[0]) != 1 or isinstance(waiting[0][0], str):
        return None
    saying = waiting[0][0]
    return saying if show_saying(saying) == text else None


def _saying_of(parts):
    """The saying of what stands in brackets: a word, texts and sayings."""
    if not parts or not isinstance(parts[0], str) or parts[0] not in FORMS:
        return None
    found = [parts[0]]
    at = 1
    for what in FORMS[parts[0]]:
        many = 2 if what == "place" else 1
        part = _part_of(what, parts[at:at + many])
        if part is None:
            return None
        found.append(part)
        at += many
    return tuple(found) if at == len(parts) else None


def _part_of(what, parts):
    """The place, integer or saying that some texts, or a saying, are."""
    if what == "saying":
        return parts[0] if parts and isinstance(parts[0], tuple) else None
    for part in parts:
        if not isinstance(part, str):
            return None
    return place_in(" ".join(parts)) if what == "place" else count_in(" ".join(parts))


def rule_pair_in(text):
    """The pair of a patch and its steps that a line of a rule shows."""
    return _all_of(places_in, text.split(" : "), 2)


def paper_in(text):
    """The paper that a text shows."""
    word, _, rest = text.partition(" ")
    if text in ("all", "none"):
        return (text,)
    if word == "some":
        places = _all_of(place_in, rest.split(" / "), 2)
        return None if places is None else ("some", places[0], places[1])
    if word == "told":
        pairs = _all_of(_rim_in, rest.split(", "), 0)
        return None if pairs is None else ("told", pairs)
    if word == "never":
        j = count_in(rest)
        return None if j is None else ("never", j)
    return None


def _rim_in(text):
    """The index of a rim and the place that a text shows."""
    first, _, rest = text.partition(" ")
    i, place = count_in(first), place_in(rest)
    return None if i is None or place is None else (i, place)


def kind_line_in(text):
    """The integer of the first line of a floor."""
    word, _, rest = text.partition(" ")
    return integer_in(rest) if word == "floor" else None


def row_line_in(text):
    """(kind, low, high) of the line of a row: an integer and two numbers."""
    words = text.split(" ")
    if len(words) != 4 or words[0] != "row":
        return None
    told = (integer_in(words[1]), number_in(words[2]), number_in(words[3]))
    return None if None in told else told

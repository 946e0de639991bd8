"""Texts, as texts.py shows them, read back."""

from wholefloors.errors import Unreadable
from wholefloors.floors import is_floor
from wholefloors.rows import is_row
from wholefloors.scans import (
    kind_line_in, number_in, paper_in, place_in, places_in, point_in, row_line_in, rule_pair_in, saying_in, word_in)


def read_number(text):
    """The number that a text shows."""
    return _only_line(number_in, text)


def read_point(text):
    """The point that a text shows."""
    return _only_line(point_in, text)


def read_place(text):
    """The place that a text shows."""
    return _only_line(place_in, text)


def read_places(text):
    """The tuple of the places that a text shows, in its sequence."""
    return _only_line(places_in, text)


def read_floor(text):
    """The floor that a text shows."""
    lines = _lines_of(text)
    kind = _line(kind_line_in, lines, 0)
    floor = (kind, tuple([_line(point_in, lines, at) for at in range(1, len(lines))]))
    if not is_floor(floor):
        raise Unreadable(0)
    return floor


def read_row(text):
    """The row that a text shows."""
    row = _only_line(row_line_in, text)
    if not is_row(row):
        raise Unreadable(0)
    return row


def read_word(text):
    """The word that a text shows."""
    return _only_line(word_in, text)


def read_saying(text):
    """The saying that a text shows."""
    return _only_line(saying_in, text)


def read_rule(text):
    """The tuple of (patch, steps) that a text shows, of any places."""
    lines = _lines_of(text)
    return tuple([_line(rule_pair_in, lines, at) for at in range(len(lines))])


def read_paper(text):
    """The paper that a text shows."""
    return _only_line(paper_in, text)


def _lines_of(text):
    """The list of the lines of a text, one at least."""
    if not isinstance(text, str):
        raise Unreadable(1)
    return text.split("\n")


def _line(scan, lines, at):
    """What the line of an index shows."""
    told = scan(lines[at])
    if told is None:
        raise Unreadable(at + 1)
    return told


def _only_line(scan, text):
    """What the one line of a text shows."""
    lines = _lines_of(text)
    told = _line(scan, lines, 0)
    if len(lines) > 1:
        raise Unreadable(2)
    return told

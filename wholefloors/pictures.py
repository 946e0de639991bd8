"""Floors, rows and windows, drawn by signs."""

from wholefloors.checks import is_integer
from wholefloors.errors import InvalidNumber
from wholefloors.fields import check_integer
from wholefloors.floors import check_floor
from wholefloors.planes import is_inside
from wholefloors.rows import check_row
from wholefloors.spacings import member_from
from wholefloors.wholes import lowest, number_order, whole_floor
from wholefloors.windows import places_in, view_of


def drawn(floor, left, low, wide, high, size):
    """The list of the rows, the topmost first, of what a floor has from a corner on, cells being 1 by size wide."""
    check_floor(floor)
    check_integer(left)
    check_integer(low)
    _check_from(wide, 0)
    _check_from(high, 0)
    _check_from(size, 1)
    kind = floor[0]
    across = ((left, 0, 1), lowest(left * size + wide, 0, size))
    upward = ((low, 0, 1), lowest(low * size + high, 0, size))
    cells = {}
    for x, y in places_in(view_of(floor), across, upward):
        cells[(_cell_of(kind, x, left, size), _cell_of(kind, y, low, size))] = True
    return [_signs([(column, row) in cells for column in range(wide)]) for row in range(high - 1, -1, -1)]


def drawn_row(row, left, wide, size):
    """The text of what a row has from an integer on, cells being 1 by size wide."""
    check_row(row)
    check_integer(left)
    _check_from(wide, 0)
    _check_from(size, 1)
    kind, stretch = row[0], row[1:]
    found = []
    for column in range(wide):
        # However long the row is, just the first member behind a cell's left end is looked for.
        start, end = [lowest(left * size + at, 0, size) for at in (column, column + 1)]
        a, b = member_from(kind, stretch, start)
        found.append(number_order(kind, (a, b, 1), end) < 0)
    return _signs(found)


def drawn_window(floor, size, wide, high):
    """The list of the rows, the topmost first, of which points (i by size, j by size) are in a floor's window."""
    check_floor(floor)
    _check_from(size, 1)
    _check_from(wide, 0)
    _check_from(high, 0)
    kind, lines = floor[0], view_of(floor).lines
    points = [[(i, 0, j, 0, size) for i in range(-wide, wide + 1)] for j in range(high, -high - 1, -1)]
    return [_signs([is_inside(kind, lines, spot) for spot in line]) for line in points]


def _check_from(told, least):
    """Raise InvalidNumber unless told is an integer from a least one on."""
    if not is_integer(told) or told < least:
        raise InvalidNumber(told)


def _cell_of(kind, pair, start, size):
    """The index of the cell of a pair, the cells beginning at an integer."""
    a, b = pair
    return whole_floor(kind, (a - start) * size, b * size, 1)


def _signs(filled):
    """The text of a list of True and False."""
    return "".join(["#" if told else "." for told in filled])

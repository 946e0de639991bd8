"""Rows: whole numbers whose mates are in a stretch, the gaps between them, and the words that gaps make."""

from wholefloors.checks import check_radius, is_integer, is_kind, is_whole
from wholefloors.errors import InvalidMember, InvalidPair, InvalidRow, InvalidWord, NoWord, NotWithin
from wholefloors.fields import check_number, is_number
from wholefloors.spacings import Spacing, is_mate_in, length_of, member_from, members_between, stretch_times
from wholefloors.stretches import check_greater_unit
from wholefloors.wholes import number_by, number_order, pair_mate


def is_row(told):
    """True if told is a kind and two numbers, the first one less than the second one."""
    if not isinstance(told, tuple) or len(told) != 3:
        return False
    kind, low, high = told
    return is_kind(kind) and is_number(low) and is_number(high) and number_order(kind, low, high) < 0


def check_row(told):
    """Raise InvalidRow unless told is a row."""
    if not is_row(told):
        raise InvalidRow(told)


def is_member(row, member):
    """True if something is a member of a row, whatever it is."""
    check_row(row)
    return is_whole(member) and is_mate_in(row[0], member, row[1:])


def check_member(row, told):
    """Raise what is due unless told is a member of a row."""
    if not is_member(row, told):
        raise InvalidMember(told)


def check_word(spacing, told):
    """Raise InvalidWord unless told is a tuple of indexes of gaps."""
    if not isinstance(told, tuple):
        raise InvalidWord(told)
    for at in told:
        if not is_integer(at) or not 0 <= at < len(spacing.gaps):
            raise InvalidWord(told)


def members(row, left, right):
    """The list of the members from a number to a number, both ends too, ascending in size."""
    check_row(row)
    check_number(left)
    check_number(right)
    if number_order(row[0], left, right) > 0:
        raise InvalidPair((left, right))
    return members_between(row[0], row[1:], (left, right))


def next_member(row, member):
    """The member behind a member."""
    check_member(row, member)
    return Spacing(row).next_of(member)


def last_member(row, member):
    """The member ahead of a member."""
    check_member(row, member)
    return Spacing(row).last_of(member)


def gaps(row):
    """The list of (gap, share, (from, to)), gaps ascending in size."""
    check_row(row)
    spacing = Spacing(row)
    return [(gap, _share(spacing, part), part) for gap, part in zip(spacing.gaps, spacing.parts)]


def word(row, member, n):
    """The word of n gaps from a member on."""
    check_member(row, member)
    check_radius(n)
    return Spacing(row).word_from(member, n)


def word_part(row, word):
    """(from, to) of the mates of the members from which a word comes, or None."""
    spacing = _spacing_with(row, word)
    return spacing.part_of(word)


def words(row, n):
    """The ascending list of (word, share) of all words of n gaps that come."""
    check_row(row)
    check_radius(n)
    spacing = Spacing(row)
    return sorted([(told, _share(spacing, part)) for told, part in spacing.all_words(n)])


def found_word(row, word):
    """A member from which a word comes."""
    spacing = _spacing_with(row, word)
    part = spacing.part_of(word)
    if part is None:
        raise NoWord(word)
    return member_from(spacing.kind, part, (0, 0, 1))


def stretched_row(row, unit):
    """The row whose members are those of a row, times a unit."""
    check_row(row)
    check_greater_unit(row[0], unit)
    return _stretched(row, unit)


def fillings(row, unit):
    """The list, for each gap, ascending in size, of the ascending tuple of its fillings."""
    check_row(row)
    check_greater_unit(row[0], unit)
    if not _lies_within(row, unit):
        raise NotWithin(row)
    return _fillings(Spacing(row), unit)


def grows_itself(row, unit):
    """True if a row, stretched by a unit, lies within itself and each gap has just one filling."""
    check_row(row)
    check_greater_unit(row[0], unit)
    return _lies_within(row, unit) and _are_single(_fillings(Spacing(row), unit))


def grown_word(row, unit, word):
    """The word that comes if each gap of a word has its filling in its place."""
    check_row(row)
    check_greater_unit(row[0], unit)
    spacing = _spacing_with(row, word)
    if not _lies_within(row, unit):
        raise NotWithin(row)
    found = _fillings(spacing, unit)
    if not _are_single(found):
        raise NotWithin(row)
    return tuple([index for at in word for index in found[at][0]])


def _spacing_with(row, word):
    """The spacing of a row, if a word is one of indexes of its gaps."""
    check_row(row)
    spacing = Spacing(row)
    check_word(spacing, word)
    return spacing


def _share(spacing, part):
    """The length of a stretch by the row's."""
    return number_by(spacing.kind, length_of(part), spacing.length)


def _stretched(row, unit):
    """A row, stretched by a unit."""
    low, high = stretch_times(row[0], row[1:], pair_mate(row[0], unit))
    return (row[0], low, high)


def _lies_within(row, unit):
    """True if a row, stretched by a unit, lies within itself."""
    kind, low, high = row
    _, first, last = _stretched(row, unit)
    return number_order(kind, low, first) <= 0 and number_order(kind, last, high) <= 0


def _fillings(spacing, unit):
    """The list of the fillings of each gap."""
    return [spacing.fillings_of(at, unit) for at in range(len(spacing.gaps))]


def _are_single(found):
    """True if each gap has just one filling."""
    return all(len(told) == 1 for told in found)

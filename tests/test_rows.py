import unittest

from common import KINDS, NONSENSE, Ways, is_deep_tuple, new_source, pairs_by_hand, random_number, real
from test_division import product
from test_patches import WRONG_RADII
from wholefloors.errors import (
    InvalidMember, InvalidNumber, InvalidPair, InvalidRadius, InvalidRow, InvalidUnit, InvalidWord, NotWithin, NoWord)
from wholefloors.fields import by, compared, floor_of, mate, minus, plus, times
from wholefloors.rows import (
    fillings, found_word, gaps, grown_word, grows_itself, is_member, is_row, last_member, members, next_member,
    stretched_row, word, word_part, words)

ZERO, ONE = (0, 0, 1), (1, 0, 1)
ROW = (5, ZERO, ONE)
# Units above 1 with a mate above 0, to 200.
UNITS = {2: [(3, 2), (17, 12), (99, 70)], 3: [(2, 1), (7, 4), (97, 56)], 5: [(1, 1), (2, 3), (34, 55)]}
WRONG_NUMBERS = NONSENSE + [0, (0, 0), (0, 0, 0), (2, 0, 2), (0, 0, -1), [0, 0, 1], (True, 0, 1), (0, 0, 2), (0, 0, 1, 1)]
WRONG_ROWS = NONSENSE + [
    (2, ZERO), (2, ZERO, ONE, ONE), [2, ZERO, ONE], (4, ZERO, ONE), (True, ZERO, ONE), ("2", ZERO, ONE), (2, ONE, ZERO), (2, ZERO, ZERO),
    (2, [0, 0, 1], ONE), (2, ZERO, (2, 0, 2)), (2, ZERO, 1), (2, (0, 1, 1), (7, 0, 5)), (ZERO, ONE, 2), (2.0, ZERO, ONE), (2, ZERO, None)]
WRONG_UNITS = NONSENSE + [(1, 0), (0, 0), (3, -2), (2, -1), (-3, -2), (2, 0), (0, 1), (1,), (1, 1, 1), [3, 2], (3, True), (3.0, 2)]
WRONG_WORDS = [wrong for wrong in NONSENSE if wrong != ()] + [[0, 1], (2,), (-1,), (0, 1, 2), (0, True), (0, None), ("0",), "01", 0, ((0,),)]


def random_rows(seed, many):
    """Rows of a length from 1 by 4 to 6, no further than 4 from 0."""
    source = new_source(seed)
    made = []
    while len(made) < many:
        row = (source.choice(KINDS), random_number(source, 2, 4), random_number(source, 5, 4))
        if all(abs(real(row[0], p)) <= 4 for p in row[1:]) and 0.25 <= real(row[0], row[2]) - real(row[0], row[1]) <= 6:
            made.append(row)
    return made


ROWS = [ROW] + [(kind, low, high) for kind in KINDS for low, high in (
    (ZERO, ONE), ((-1, 0, 1), (1, 0, 1)), (ZERO, (0, 1, 1)), ((-2, 0, 1), (4, 0, 1)), ((-1, 0, 2), (1, 1, 3)), ((-1, 0, 8), (1, 0, 8)),
    ((0, -1, 2), (3, 0, 7)))] + random_rows(91, 8)


def in_stretch(kind, pair, start, end):
    told = mate(kind, (*pair, 1))
    return compared(kind, start, told) <= 0 and compared(kind, told, end) < 0


def members_by_hand(row, left, right):
    """By [11]: all whole numbers between two integers whose mates are from low on and below high, ascending."""
    kind, low, high = row
    tiny = 0.001
    found = pairs_by_hand(kind, left - tiny, right + tiny, real(kind, low) - 1, real(kind, high) + 1)
    found = [pair for pair in found if in_stretch(kind, pair, low, high)
             and compared(kind, (left, 0, 1), (*pair, 1)) <= 0 <= compared(kind, (right, 0, 1), (*pair, 1))]
    return sorted(found, key=lambda pair: real(kind, (*pair, 1)))


def less_pair(p, q):
    return (p[0] - q[0], p[1] - q[1])


def gaps_by_hand(row, around):
    """The gaps of some members behind one another, ascending."""
    found = {less_pair(other, one) for one, other in zip(around, around[1:])}
    return sorted(found, key=lambda pair: real(row[0], (*pair, 1)))


def word_by_hand(order, around):
    """The indexes of the gaps between members."""
    return tuple(order.index(less_pair(other, one)) for one, other in zip(around, around[1:]))


def length_of(stretch):
    return minus(stretch[1], stretch[0])


def common_length(kind, one, other):
    """The length of what two stretches have in common."""
    start = max(one[0], other[0], key=lambda p: real(kind, p))
    end = min(one[1], other[1], key=lambda p: real(kind, p))
    return length_of((start, end)) if compared(kind, start, end) < 0 else ZERO


def lies_within(row, unit):
    kind, low, high = row
    factor = mate(kind, (*unit, 1))
    return compared(kind, low, times(kind, factor, low)) <= 0 <= compared(kind, high, times(kind, factor, high))


class RowsTest(Ways, unittest.TestCase):
    def test_heads(self):
        self.named(is_row, "told")
        for function in (is_member, next_member, last_member):
            self.named(function, "row", "member")
        self.named(members, "row", "left", "right")
        self.named(gaps, "row")
        self.named(word, "row", "member", "n")
        self.named(words, "row", "n")
        self.named(word_part, "row", "word")
        self.named(found_word, "row", "word")
        for function in (stretched_row, fillings, grows_itself):
            self.named(function, "row", "unit")
        self.named(grown_word, "row", "unit", "word")

    def test_what_is_a_row(self):
        for row in ROWS:
            self.assertIs(self.same_by_name(is_row, row), True)
        for wrong in WRONG_ROWS:
            self.assertIs(is_row(wrong), False, wrong)
        # The root of 2 is less than 3 by 2, that of 3 and the half of 1 and the root of 5 are not.
        self.assertEqual([is_row((kind, (3, 0, 2), (0, 1, 1))) for kind in KINDS], [False, True, True])

    def test_what_is_a_member(self):
        for row in ROWS:
            kind, low, high = row
            for a in range(-4, 5):
                for b in range(-4, 5):
                    self.assertIs(self.same_by_name(is_member, row, (a, b)), in_stretch(kind, (a, b), low, high))
            for other in NONSENSE + [0, (0,), (0, 0, 1), [0, 0], (0, True), (False, 0), (0.0, 0), ("0", 0), ((0, 0), (0, 0))]:
                self.assertIs(is_member(row, other), False, other)
        # The low end is a member's, the high one none's.
        self.assertEqual([is_member(ROW, (0, 0)), is_member(ROW, (1, 0))], [True, False])
        self.assertEqual([is_member((2, (1, -1, 1), (3, 0, 1)), pair) for pair in ((1, 1), (3, 0), (2, 0))], [True, False, True])

    def test_members(self):
        self.assertEqual(self.same_by_name(members, ROW, ZERO, (6, 0, 1)), [(0, 0), (1, 1), (2, 2)])
        for row in ROWS:
            for left, right in ((0, 12), (-20, 3), (40, 45), (-1, -1)):
                told = members(row, (left, 0, 1), (right, 0, 1))
                self.assertEqual(told, members_by_hand(row, left, right))
                self.assertTrue(is_deep_tuple(tuple(told)))

    def test_members_at_both_ends(self):
        for row in ROWS:
            told = members_by_hand(row, -40, 40)
            ends = ((*told[0], 1), (*told[-1], 1))
            self.assertEqual(members(row, *ends), told)
            self.assertEqual(members(row, ends[0], ends[0]), told[:1])
            near = (1, 0, 10 ** 30)
            self.assertEqual(members(row, plus(ends[0], near), minus(ends[1], near)), told[1:-1])
        self.assertEqual(members(ROW, (1, 0, 3), (1, 0, 2)), [])

    def test_many_members(self):
        for row in ROWS[:4] + ROWS[-2:]:
            self.assertEqual(members(row, (-75, 0, 1), (75, 0, 1)), members_by_hand(row, -75, 75))
            self.assertEqual(members(row, (10 ** 6, 1, 1), (10 ** 6 + 2, 1, 1)),
                             [pair for pair in members(row, (10 ** 6 - 20, 0, 1), (10 ** 6 + 20, 0, 1))
                              if compared(row[0], (10 ** 6, 1, 1), (*pair, 1)) <= 0 <= compared(row[0], (10 ** 6 + 2, 1, 1), (*pair, 1))])

    def test_the_next_and_the_last_member(self):
        self.assertEqual(self.same_by_name(next_member, ROW, (0, 0)), (1, 1))
        self.assertEqual(self.same_by_name(last_member, ROW, (1, 1)), (0, 0))
        for row in ROWS:
            told = members_by_hand(row, -40, 40)
            for one, other in zip(told, told[1:]):
                self.assertEqual([next_member(row, one), last_member(row, other)], [other, one])

    def test_gaps(self):
        self.assertEqual(self.same_by_name(gaps, ROW), [((0, 1), (2, -1, 1), ((-1, 1, 1), ONE)), ((1, 1), (-1, 1, 1), (ZERO, (-1, 1, 1)))])
        many = []
        for row in ROWS:
            kind, low, high = row
            around = members_by_hand(row, -60, 60)
            told = self.same_by_name(gaps, row)
            self.assertTrue(is_deep_tuple(tuple(told)))
            order = [gap for gap, _, _ in told]
            self.assertEqual(order, sorted(order, key=lambda gap: real(kind, (*gap, 1))))
            self.assertLessEqual(set(gaps_by_hand(row, around)), set(order))
            many.append(len(told))
            total = ZERO
            for at, (gap, part_share, part) in enumerate(told):
                self.assertEqual(part_share, by(kind, length_of(part), minus(high, low)))
                total = plus(total, part_share)
                self.check_gap(row, found_word(row, (at,)), gap)
            self.assertEqual(total, ONE)
            for one, other in zip(around, around[1:]):
                within = [gap for gap, _, part in told if in_stretch(kind, one, *part)]
                self.assertEqual(within, [less_pair(other, one)])
            if len(told) == 3:
                self.assertEqual(order[2], (order[0][0] + order[1][0], order[0][1] + order[1][1]))
        self.assertEqual(set(many), {2, 3})

    def check_gap(self, row, member, gap):
        """Behind a member just this gap comes."""
        start = floor_of(row[0], (*member, 1))
        around = members_by_hand(row, start, start + 40)
        at = around.index(member)
        self.assertEqual(less_pair(around[at + 1], member), gap)

    def test_the_low_end_begins_a_part(self):
        for row in ROWS:
            told = sorted((real(row[0], part[0]), real(row[0], part[1]), part) for _, _, part in gaps(row))
            self.assertEqual([told[0][2][0], told[-1][2][1]], [row[1], row[2]])
            self.assertEqual([part[1] for _, _, part in told[:-1]], [part[0] for _, _, part in told[1:]])

    def test_words(self):
        for row in ROWS:
            order = [gap for gap, _, _ in gaps(row)]
            around = members_by_hand(row, -90, 90)
            for n in (0, 1, 2, 5, 20):
                told = {word_by_hand(order, around[k:k + n + 1]) for k in range(len(around) - n)}
                for k in range(0, len(around) - n, 17):
                    self.assertEqual(self.same_by_name(word, row, around[k], n), word_by_hand(order, around[k:k + n + 1]))
                self.check_words(row, n, told)

    def check_words(self, row, n, seen):
        kind, low, high = row
        told = self.same_by_name(words, row, n)
        self.assertTrue(is_deep_tuple(tuple(told)))
        self.assertEqual(told, sorted(told))
        self.assertEqual(len(dict(told)), len(told))
        self.assertLessEqual(seen, set(dict(told)))
        total = ZERO
        for found, part_share in told:
            part = self.same_by_name(word_part, row, found)
            self.assertEqual(by(kind, length_of(part), minus(high, low)), part_share)
            self.assertEqual(compared(kind, part_share, ZERO), 1)
            total = plus(total, part_share)
            member = self.same_by_name(found_word, row, found)
            self.assertTrue(is_member(row, member) and in_stretch(kind, member, *part))
            self.assertEqual(word(row, member, n), found)
        self.assertEqual(total, ONE)

    def test_words_of_no_gap(self):
        for row in ROWS:
            self.assertEqual(words(row, 0), [((), ONE)])
            self.assertEqual(word(row, members_by_hand(row, -9, 9)[0], 0), ())
            self.assertEqual(word_part(row, ()), row[1:])
            self.assertTrue(is_member(row, found_word(row, ())))

    def test_parts_of_words_by_hand(self):
        for row in ROWS[::3]:
            order = [gap for gap, _, _ in gaps(row)]
            around = members_by_hand(row, -50, 50)
            for found, _ in words(row, 4)[::2]:
                part = word_part(row, found)
                for k in range(len(around) - 4):
                    self.assertIs(in_stretch(row[0], around[k], *part), word_by_hand(order, around[k:k + 5]) == found)

    def test_words_that_do_not_come(self):
        for row in ROWS:
            many = len(gaps(row))
            come = dict(words(row, 3))
            for found in [(i, j, k) for i in range(many) for j in range(many) for k in range(many)]:
                self.assertIs(word_part(row, found) is not None, found in come)
                if found not in come:
                    self.refused(NoWord, found, found_word, row, found)
        self.refused(NoWord, (0, 0, 0), found_word, ROW, (0, 0, 0))
        self.assertIsNone(word_part(ROW, (0, 0)))

    def test_long_words(self):
        for row in ROWS:
            member = members_by_hand(row, 0, 9)[0]
            found = word(row, member, 200)
            self.assertEqual(len(found), 200)
            part = word_part(row, found)
            self.assertTrue(in_stretch(row[0], member, *part))
            self.assertEqual(word(row, found_word(row, found), 200), found)
            self.assertEqual(found[:20], word(row, member, 20))
            # With one gap more it comes from all of its part, by each gap from another stretch.
            total = ZERO
            for at in range(len(gaps(row))):
                longer = word_part(row, found + (at,))
                total = plus(total, length_of(longer)) if longer else total
            self.assertEqual(total, length_of(part))

    def test_stretched_rows(self):
        self.same_by_name(stretched_row, ROW, (1, 1))
        for row in ROWS:
            kind, low, high = row
            for unit in UNITS[kind]:
                told = stretched_row(row, unit)
                factor = mate(kind, (*unit, 1))
                self.assertEqual(told, (kind, times(kind, factor, low), times(kind, factor, high)))
                self.assertTrue(is_row(told) and is_deep_tuple(told))
                for member in members_by_hand(row, -5, 5):
                    self.assertTrue(is_member(told, product(kind, unit, member)))
            told = stretched_row(row, UNITS[kind][0])
            far = [product(kind, UNITS[kind][0], member) for member in members_by_hand(row, -9, 9)]
            self.assertEqual(members(told, (*far[0], 1), (*far[-1], 1)), far)

    def test_rows_of_any_length(self):
        for row in ROWS[:6] + ROWS[-3:]:
            kind = row[0]
            unit = UNITS[kind][-1]
            told, factor = row, (1, 0)
            for _ in range(9):
                told, factor = stretched_row(told, unit), product(kind, factor, unit)
            self.assertEqual([gap for gap, _, _ in gaps(told)], [product(kind, factor, gap) for gap, _, _ in gaps(row)])
            self.assertEqual([part_share for _, part_share, _ in gaps(told)], [part_share for _, part_share, _ in gaps(row)])
            self.assertEqual(words(told, 5), words(row, 5))
            member = found_word(told, words(row, 5)[0][0])
            self.assertTrue(is_member(told, member))
            self.assertEqual(word(told, member, 5), words(row, 5)[0][0])
            self.assertEqual(last_member(told, next_member(told, member)), member)
            near = (*member, 1)
            self.assertEqual(members(told, near, plus(near, (150, 0, 1))), [member])

    def test_long_rows(self):
        for kind in KINDS:
            row = (kind, (-50, 1, 3), (60, 0, 1))
            around = members_by_hand(row, -3, 3)
            self.assertEqual(members(row, (-3, 0, 1), (3, 0, 1)), around)
            self.assertLessEqual(set(gaps_by_hand(row, around)), {gap for gap, _, _ in gaps(row)})
            for at, (gap, _, _) in enumerate(gaps(row)):
                self.check_gap(row, found_word(row, (at,)), gap)

    def test_fillings(self):
        for row in ROWS:
            for unit in UNITS[row[0]][:2]:
                if lies_within(row, unit):
                    self.check_fillings(row, unit)
                else:
                    self.refused(NotWithin, row, fillings, row, unit)
                    self.assertIs(grows_itself(row, unit), False)

    def check_fillings(self, row, unit):
        kind = row[0]
        told = self.same_by_name(fillings, row, unit)
        self.assertEqual(type(told), list)
        self.assertTrue(is_deep_tuple(tuple(told)))
        by_hand = fillings_by_hand(row, unit)
        factor = mate(kind, (*unit, 1))
        self.assertEqual(len(told), len(gaps(row)))
        for (_, _, part), found, seen in zip(gaps(row), told, by_hand):
            self.assertEqual(list(found), sorted(set(found)))
            self.assertLessEqual(seen, set(found))
            # Each filling comes from some members behind which the gap comes, and all of them come from all such.
            small = tuple(times(kind, factor, end) for end in part)
            total = ZERO
            for filling in found:
                share = common_length(kind, small, word_part(row, filling))
                self.assertEqual(compared(kind, share, ZERO), 1)
                total = plus(total, share)
            self.assertEqual(total, length_of(small))
        single = all(len(found) == 1 for found in told)
        self.assertIs(self.same_by_name(grows_itself, row, unit), single)

    def test_fillings_by_hand(self):
        self.assertEqual(fillings(ROW, (1, 1)), [tuple(sorted(seen)) for seen in fillings_by_hand(ROW, (1, 1))])
        self.assertEqual([len(found) for found in fillings(ROW, (1, 1))], [1, 1])
        both = [len(found) for row in ROWS for unit in UNITS[row[0]][:1] if lies_within(row, unit) for found in fillings(row, unit)]
        self.assertIn(1, both)
        self.assertGreater(max(both), 1)

    def test_great_units(self):
        for row in ROWS:
            unit = UNITS[row[0]][2]
            if lies_within(row, unit):
                kind = row[0]
                order = [gap for gap, _, _ in gaps(row)]
                for gap, found in zip(order, fillings(row, unit)):
                    for filling in found:
                        total = (sum(order[at][0] for at in filling), sum(order[at][1] for at in filling))
                        self.assertEqual(total, product(kind, unit, gap))
                        self.assertIsNotNone(word_part(row, filling))

    def test_which_rows_grow_of_themselves(self):
        self.assertIs(self.same_by_name(grows_itself, ROW, (1, 1)), True)
        for kind in KINDS:
            for unit in UNITS[kind]:
                self.assertIs(grows_itself((kind, ZERO, ONE), unit), True)
                # From 1 on nothing lies within that is stretched.
                away = (kind, ONE, (2, 0, 1))
                self.assertIs(grows_itself(away, unit), False)
                self.refused(NotWithin, away, fillings, away, unit)
                self.refused(NotWithin, away, grown_word, away, unit, (0,))

    def test_ends_in_common(self):
        # At 0 a row and the stretched one have an end in common.
        for kind in KINDS:
            unit = UNITS[kind][0]
            for row in ((kind, ZERO, (1, 1, 2)), (kind, (-3, 0, 2), ZERO), (kind, (-1, 0, 5), (1, 0, 5))):
                self.assertTrue(lies_within(row, unit))
                self.check_fillings(row, unit)
            for row in ((kind, (1, 0, 10 ** 6), ONE), (kind, (-1, 0, 1), (-1, 0, 10 ** 6))):
                self.refused(NotWithin, row, fillings, row, unit)

    def test_grown_words(self):
        for row in ROWS:
            for unit in UNITS[row[0]]:
                if not grows_itself(row, unit):
                    self.refused(NotWithin, row, grown_word, row, unit, (0, 1))
                    continue
                found = [told[0] for told in fillings(row, unit)]
                member = members_by_hand(row, -5, 9)[0]
                for n in (0, 1, 7):
                    told = word(row, member, n)
                    grown = self.same_by_name(grown_word, row, unit, told)
                    self.assertEqual(grown, sum((found[at] for at in told), ()))
                    self.assertEqual(grown, word(row, product(row[0], unit, member), len(grown)))
                # What does not come may be grown, too.
                self.assertEqual(grown_word(row, unit, (0, 0, 0, 0)), found[0] * 4)
        self.assertEqual(grown_word(ROW, (1, 1), ()), ())

    def test_the_golden_row(self):
        # The small gap w and the great one 1 + w: stretched, w is filled by one of both, the great one by one more.
        self.assertEqual(fillings(ROW, (1, 1)), [((1, 0),), ((1, 1, 0),)])
        at = (0,)
        for n, many in enumerate((1, 2, 5, 13, 34)):
            self.assertEqual(len(at), many)
            self.assertIsNotNone(word_part(ROW, at), n)
            at = grown_word(ROW, (1, 1), at)

    def test_lists_are_new(self):
        for function, rest in ((gaps, ()), (words, (2,)), (members, (ZERO, (6, 0, 1))), (fillings, ((1, 1),))):
            many = len(function(ROW, *rest))
            function(ROW, *rest).clear()
            self.assertEqual(len(function(ROW, *rest)), many)

    def test_wrong_rows_come_first(self):
        for wrong in WRONG_ROWS:
            self.refused(InvalidRow, wrong, is_member, wrong, None)
            self.refused(InvalidRow, wrong, members, wrong, None, None)
            for function in (next_member, last_member, word_part, found_word, stretched_row, fillings, grows_itself):
                self.refused(InvalidRow, wrong, function, wrong, None)
            self.refused(InvalidRow, wrong, gaps, wrong)
            self.refused(InvalidRow, wrong, word, wrong, None, -1)
            self.refused(InvalidRow, wrong, words, wrong, -1)
            self.refused(InvalidRow, wrong, grown_word, wrong, None, None)

    def test_wrong_units(self):
        for row in ((2, ZERO, ONE), (3, ONE, (2, 0, 1)), ROW):
            for wrong in WRONG_UNITS + [unit for kind in KINDS for unit in UNITS[kind] if kind != row[0]]:
                for function in (stretched_row, fillings, grows_itself):
                    self.refused(InvalidUnit, wrong, function, row, wrong)
                self.refused(InvalidUnit, wrong, grown_word, row, wrong, None)

    def test_wrong_numbers_and_pairs(self):
        for wrong in WRONG_NUMBERS:
            self.refused(InvalidNumber, wrong, members, ROW, wrong, "right")
            self.refused(InvalidNumber, wrong, members, ROW, ONE, wrong)
        self.refused(InvalidPair, (ONE, ZERO), members, ROW, ONE, ZERO)
        self.refused(InvalidPair, ((3, 0, 2), (0, 1, 1)), members, (2, ZERO, ONE), (3, 0, 2), (0, 1, 1))
        self.assertEqual(members(ROW, ONE, ONE), [])

    def test_wrong_members(self):
        for wrong in NONSENSE + [(1, 0), (0, 1), (0, 0, 1), [0, 0], (False, 0), (0,)]:
            for function in (next_member, last_member):
                self.refused(InvalidMember, wrong, function, ROW, wrong)
            self.refused(InvalidMember, wrong, word, ROW, wrong, -1)

    def test_wrong_counts(self):
        for wrong in WRONG_RADII:
            self.refused(InvalidRadius, wrong, word, ROW, (0, 0), wrong)
            self.refused(InvalidRadius, wrong, words, ROW, wrong)

    def test_wrong_words(self):
        away = (5, ONE, (2, 0, 1))
        for wrong in WRONG_WORDS:
            for function in (word_part, found_word):
                self.refused(InvalidWord, wrong, function, ROW, wrong)
            self.refused(InvalidWord, wrong, grown_word, ROW, (1, 1), wrong)
            self.refused(InvalidWord, wrong, grown_word, away, (1, 1), wrong)
        three = (2, (-2, 0, 1), (4, 0, 1))
        self.assertEqual(len(gaps(three)), 3)
        self.assertIsNotNone(word_part(three, (2,)))
        self.refused(InvalidWord, (3,), word_part, three, (3,))


def fillings_by_hand(row, unit):
    """By [13], of all members of a stretch: a set of words for each gap."""
    kind = row[0]
    around = members_by_hand(row, -30, 30)
    order = [gap for gap, _, _ in gaps(row)]
    found = [set() for _ in order]
    for one, other in zip(around[::3], around[1::3]):
        start, end = product(kind, unit, one), product(kind, unit, other)
        between = members(row, (*start, 1), (*end, 1))
        assert between[0] == start and between[-1] == end
        found[order.index(less_pair(other, one))].add(word_by_hand(order, between))
    return found


if __name__ == "__main__":
    unittest.main()

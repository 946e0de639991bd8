import unittest

from common import KINDS, NONSENSE, Ways, is_deep_tuple, new_source
from test_polygons import WRONG_KINDS
from wholefloors.division import common_divisor, divided, divides, solved
from wholefloors.errors import DividedByZero, InvalidKind, InvalidNumber
from wholefloors.fields import by

ZERO = (0, 0)
MOST = 10 ** 12
WRONG_WHOLES = NONSENSE + [0, (1,), (1, 2, 1), [1, 2], (1, True), (False, 0), (1, 2.0), ("1", 2), (None, 1), ((1, 2), (0, 0)), "12"]
SMALL = [(a, b) for a in range(-3, 4) for b in range(-3, 4)]


def product(kind, p, q):
    """By [3]: w times w is 2, 3, or w and 1 together."""
    (a, b), (c, d) = p, q
    square = b * d
    if kind == 5:
        return (a * c + square, a * d + b * c + square)
    return (a * c + kind * square, a * d + b * c)


def size(kind, p):
    """The absolute value of the norm."""
    a, b = p
    return abs(product(kind, p, (a + b, -b) if kind == 5 else (a, -b))[0])


def sum_by(kind, p, x, q, y):
    """p times x and q times y, added."""
    (a, b), (c, d) = product(kind, p, x), product(kind, q, y)
    return (a + c, b + d)


def is_multiple(kind, p, q):
    """True if p by q is a whole number, q not being 0."""
    return by(kind, (*p, 1), (*q, 1))[2] == 1


def random_whole(source, most=MOST):
    return (source.randint(-most, most), source.randint(-most, most))


class DivisionTest(Ways, unittest.TestCase):
    def test_heads(self):
        self.named(divided, "kind", "p", "q")
        self.named(divides, "kind", "q", "p")
        self.named(common_divisor, "kind", "p", "q")
        self.named(solved, "kind", "p", "q", "c")

    def test_division_with_a_rest(self):
        source = new_source(21)
        for kind in KINDS:
            pairs = [(p, q) for p in SMALL for q in SMALL if q != ZERO]
            pairs += [(random_whole(source), random_whole(source, most)) for most in (5, 1000, 10 ** 6, MOST) for _ in range(50)]
            for p, q in pairs:
                if q != ZERO:
                    self.check_division(kind, p, q)

    def check_division(self, kind, p, q):
        told = self.same_by_name(divided, kind, p, q)
        self.assertTrue(is_deep_tuple(told))
        quotient, rest = told
        self.assertEqual(sum_by(kind, quotient, q, rest, (1, 0)), p)
        self.assertLess(size(kind, rest), size(kind, q))

    def test_divisors_of_small_norm_leave_nothing(self):
        for kind, unit in ((2, (1, 1)), (2, (-7, 5)), (3, (2, -1)), (3, (7, 4)), (5, (0, 1)), (5, (-1, 1)), (5, (5, -3))):
            for p in SMALL + [(MOST, 1 - MOST)]:
                quotient, rest = divided(kind, p, unit)
                self.assertEqual([product(kind, quotient, unit), rest], [p, ZERO])
                self.assertIs(divides(kind, unit, p), True)

    def test_zero_is_divided(self):
        for kind in KINDS:
            self.assertEqual(divided(kind, ZERO, (3, 1)), (ZERO, ZERO))
            self.assertIs(self.same_by_name(divides, kind, (3, 1), ZERO), True)
            self.assertIs(divides(kind, ZERO, (3, 1)), False)
            self.assertIs(divides(kind, ZERO, (0, 1)), False)
            self.assertIs(divides(kind, ZERO, ZERO), True)

    def test_what_divides_what(self):
        self.assertIs(self.same_by_name(divides, 5, (0, 1), (3, 0)), True)
        self.assertIs(divides(2, (0, 1), (1, 0)), False)
        self.assertEqual([divides(kind, (0, 1), (6, 0)) for kind in KINDS], [True, True, True])
        self.assertEqual([divides(kind, (0, 1), (3, 0)) for kind in KINDS], [False, True, True])
        for kind in KINDS:
            for q in SMALL:
                for p in SMALL:
                    if q != ZERO:
                        self.assertIs(divides(kind, q, p), is_multiple(kind, p, q), (kind, q, p))

    def test_great_numbers_divide(self):
        source = new_source(22)
        for kind in KINDS:
            for _ in range(50):
                q, x = random_whole(source, 10 ** 6), random_whole(source, 10 ** 5)
                p = product(kind, q, x)
                self.assertIs(divides(kind, q, p), True)
                self.assertEqual(divided(kind, p, q), (x, ZERO))
                if size(kind, q) > 1:
                    self.assertIs(divides(kind, q, (p[0] + 1, p[1])), is_multiple(kind, (p[0] + 1, p[1]), q))

    def test_common_divisors(self):
        source = new_source(23)
        for kind in KINDS:
            pairs = [(p, q) for p in SMALL for q in SMALL]
            pairs += [(random_whole(source), random_whole(source)) for _ in range(60)]
            for _ in range(60):
                common = random_whole(source, 300)
                pairs.append((product(kind, common, random_whole(source, 1000)), product(kind, common, random_whole(source, 1000))))
            for p, q in pairs:
                self.check_common(kind, p, q)

    def check_common(self, kind, p, q):
        told = self.same_by_name(common_divisor, kind, p, q)
        self.assertTrue(is_deep_tuple(told))
        g, x, y = told
        self.assertEqual(sum_by(kind, p, x, q, y), g)
        if p == q == ZERO:
            self.assertEqual(g, ZERO)
        else:
            self.assertTrue(is_multiple(kind, p, g))
            self.assertTrue(is_multiple(kind, q, g))

    def test_common_divisors_by_hand(self):
        for kind in KINDS:
            self.assertEqual(common_divisor(kind, ZERO, ZERO)[0], ZERO)
            self.assertEqual(size(kind, common_divisor(kind, (4, 0), (6, 0))[0]), 4)
            self.assertEqual(size(kind, common_divisor(kind, (7, 3), ZERO)[0]), size(kind, (7, 3)))
            self.assertEqual(size(kind, common_divisor(kind, ZERO, (7, 3))[0]), size(kind, (7, 3)))
        # 7 is (3 + w) times (3 - w) in the kind 2, and 11 is -(1 + 2 w) times (1 - 2 w) in the kind 3.
        self.assertEqual(size(2, common_divisor(2, (7, 0), (3, 1))[0]), 7)
        self.assertEqual(size(2, common_divisor(2, (3, 1), (3, -1))[0]), 1)
        self.assertEqual(size(3, common_divisor(3, (11, 0), (1, 2))[0]), 11)

    def test_what_is_solved(self):
        source = new_source(24)
        for kind in KINDS:
            for p in SMALL[::3]:
                for q in SMALL[::2]:
                    for c in SMALL[::4]:
                        self.check_solved(kind, p, q, c)
            for _ in range(80):
                p, q, c = [random_whole(source) for _ in range(3)]
                self.check_solved(kind, p, q, c)
                common = random_whole(source, 5)
                p, q = product(kind, common, random_whole(source, 10 ** 6)), product(kind, common, random_whole(source, 10 ** 6))
                self.check_solved(kind, p, q, random_whole(source, 50))

    def check_solved(self, kind, p, q, c):
        told = self.same_by_name(solved, kind, p, q, c)
        divisor = common_divisor(kind, p, q)[0]
        self.assertIs(told is not None, divides(kind, divisor, c), (kind, p, q, c))
        if told is not None:
            self.assertTrue(is_deep_tuple(told))
            self.assertEqual(sum_by(kind, p, told[0], q, told[1]), c)

    def test_what_small_numbers_solve_is_told_to_be_solved(self):
        wholes = [(a, b) for a in range(-4, 5) for b in range(-4, 5)]
        for kind in KINDS:
            for p, q in (((2, 0), (0, 2)), ((3, 1), (5, -1)), ((2, 2), (4, 0)), ((0, 1), (2, 0)), ((3, 0), (0, 3))):
                reached = {sum_by(kind, p, x, q, y) for x in wholes for y in wholes[::3]}
                for c in SMALL:
                    self.check_solved(kind, p, q, c)
                    if c in reached:
                        self.assertIsNotNone(solved(kind, p, q, c))

    def test_solved_with_zeros(self):
        for kind in KINDS:
            self.check_solved(kind, ZERO, ZERO, ZERO)
            self.assertIsNone(solved(kind, ZERO, ZERO, (1, 0)))
            self.assertEqual(solved(kind, (3, 0), ZERO, (6, -9))[0], (2, -3))
            self.assertEqual(solved(kind, ZERO, (3, 0), (6, -9))[1], (2, -3))
            self.assertIsNone(solved(kind, (3, 0), ZERO, (1, 0)))

    def test_wrong_kinds_come_first(self):
        for wrong in WRONG_KINDS:
            self.refused(InvalidKind, wrong, divided, wrong, None, ZERO)
            self.refused(InvalidKind, wrong, divides, wrong, None, None)
            self.refused(InvalidKind, wrong, common_divisor, wrong, None, None)
            self.refused(InvalidKind, wrong, solved, wrong, None, None, None)

    def test_wrong_numbers_in_the_sequence_of_the_arguments(self):
        for wrong in WRONG_WHOLES:
            self.refused(InvalidNumber, wrong, divided, 2, wrong, ZERO)
            self.refused(InvalidNumber, wrong, divided, 2, wrong, "q")
            self.refused(InvalidNumber, wrong, divided, 2, ZERO, wrong)
            self.refused(InvalidNumber, wrong, divides, 3, wrong, "p")
            self.refused(InvalidNumber, wrong, divides, 3, ZERO, wrong)
            self.refused(InvalidNumber, wrong, common_divisor, 5, wrong, "q")
            self.refused(InvalidNumber, wrong, common_divisor, 5, (1, 1), wrong)
            self.refused(InvalidNumber, wrong, solved, 5, wrong, "q", "c")
            self.refused(InvalidNumber, wrong, solved, 5, ZERO, wrong, "c")
            self.refused(InvalidNumber, wrong, solved, 5, ZERO, ZERO, wrong)
        # The name tells which one is which.
        with self.assertRaises(InvalidNumber) as caught:
            divides(p="p", q="q", kind=2)
        self.assertEqual(caught.exception.value, "q")

    def test_divided_by_zero(self):
        for kind in KINDS:
            for p in SMALL:
                self.refused(DividedByZero, p, divided, kind, p, ZERO)


if __name__ == "__main__":
    unittest.main()

import unittest
from fractions import Fraction
from math import floor, gcd

from common import KINDS, NONSENSE, OMEGAS, Ways, new_source, real
from wholefloors.errors import DividedByZero, InvalidKind, InvalidNumber
from wholefloors.fields import (
    about, by, compared, floor_of, is_number, mate, minus, norm, number, plus, scaled, sign, stretch_unit, times, unit)

WRONG_KINDS = [None, True, 0, 1, 4, -2, 2.0, "2", (2,), [2], 25]
WRONG_NUMBERS = NONSENSE + [(1, 2), (1, 2, 0), (1, 2, -1), (2, 4, 2), (0, 0, 2), [1, 2, 1], (1, True, 1), (True, 0, 1),
                            (1, 0, True), (1, 2, 1, 1), (1.0, 2, 1), (1, 2, "1"), (0, 0, 0)]
NUMBERS = [(0, 0, 1), (1, 0, 1), (-1, 0, 1), (0, 1, 1), (0, -1, 1), (3, -2, 1), (-3, 2, 1), (1, 2, 3), (-5, 7, 11),
           (0, 1, 2), (1, -1, 12), (999, -999, 7)]


def long_numbers(kind):
    """Whole numbers very near to 0, of many digits: powers of the mate of the least unit."""
    found = []
    p = (1, 0, 1)
    for k in range(400):
        p = times(kind, p, mate(kind, unit(kind)))
        if k in (9, 10, 99, 100, 398, 399):
            found.append(p)
    return found


class FieldsTest(Ways, unittest.TestCase):
    def test_heads(self):
        self.named(is_number, "told")
        self.named(number, "a", "b", "n")
        self.named(scaled, "p", "k")
        self.named(about, "kind", "p", "n")
        for function in (plus, minus):
            self.named(function, "p", "q")
        for function in (times, by, compared):
            self.named(function, "kind", "p", "q")
        for function in (mate, norm, sign, floor_of):
            self.named(function, "kind", "p")
        for function in (unit, stretch_unit):
            self.named(function, "kind")

    def test_what_is_a_number(self):
        for p in NUMBERS:
            self.assertIs(self.same_by_name(is_number, p), True)
        for told in WRONG_NUMBERS:
            self.assertIs(is_number(told), False, told)
        self.assertIs(is_number((10 ** 400, 10 ** 400 + 1, 10 ** 300)), True)

    def test_number_brings_into_form(self):
        self.assertEqual(self.same_by_name(number, 2, 4, -6), (-1, -2, 3))
        self.assertEqual(number(0, 0, -17), (0, 0, 1))
        self.assertEqual(number(6, 0, 3), (2, 0, 1))
        self.assertEqual(number(0, -9, -6), (0, 3, 2))
        self.assertEqual(number(10 ** 300, 10 ** 301, -10 ** 299), (-10, -100, 1))
        source = new_source(1)
        for _ in range(200):
            a, b, n = source.randint(-50, 50), source.randint(-50, 50), source.choice((-12, -7, -1, 1, 2, 30))
            c, d, m = number(a, b, n)
            self.assertTrue(is_number((c, d, m)))
            self.assertEqual((Fraction(a, n), Fraction(b, n)), (Fraction(c, m), Fraction(d, m)))

    def test_number_refuses(self):
        for wrong in (None, True, 1.0, "1", (1,), [1]):
            self.refused(InvalidNumber, wrong, number, wrong, 1, 1)
            self.refused(InvalidNumber, wrong, number, 1, wrong, 1)
            self.refused(InvalidNumber, wrong, number, 1, 1, wrong)
            self.refused(InvalidNumber, wrong, number, 1, wrong, 0)
        self.refused(InvalidNumber, "a", number, "a", "b", "c")
        self.refused(InvalidNumber, "b", number, 0, "b", "c")
        self.refused(DividedByZero, (3, 4), number, 3, 4, 0)
        self.refused(DividedByZero, (0, 0), number, 0, 0, 0)

    def test_sums(self):
        self.assertEqual(self.same_by_name(plus, (1, 2, 3), (1, 1, 6)), (3, 5, 6))
        self.assertEqual(plus((1, 0, 2), (1, 0, 2)), (1, 0, 1))
        self.assertEqual(self.same_by_name(minus, (1, 2, 3), (1, 2, 3)), (0, 0, 1))
        self.assertEqual(self.same_by_name(scaled, (1, 2, 6), -3), (-1, -2, 2))
        self.assertEqual(scaled((1, 2, 6), 0), (0, 0, 1))
        for p in NUMBERS:
            for q in NUMBERS:
                total = plus(p, q)
                self.assertTrue(is_number(total))
                self.assertEqual(minus(total, q), p)
                self.assertEqual(Fraction(total[1], total[2]), Fraction(p[1], p[2]) + Fraction(q[1], q[2]))
                self.assertEqual(Fraction(total[0], total[2]), Fraction(p[0], p[2]) + Fraction(q[0], q[2]))

    def test_products_and_quotients(self):
        self.assertEqual(times(5, (0, 1, 1), (0, 1, 1)), (1, 1, 1))
        self.assertEqual(times(2, (0, 1, 1), (0, 1, 1)), (2, 0, 1))
        self.assertEqual(times(3, (0, 1, 1), (0, 1, 1)), (3, 0, 1))
        self.assertEqual(by(2, (1, 0, 1), (1, 1, 1)), (-1, 1, 1))
        for kind in KINDS:
            self.same_by_name(times, kind, (1, 2, 3), (4, 5, 6))
            self.same_by_name(by, kind, (1, 2, 3), (4, 5, 6))
            for p in NUMBERS:
                for q in NUMBERS:
                    made = times(kind, p, q)
                    self.assertTrue(is_number(made))
                    self.assertLess(abs(real(kind, made) - real(kind, p) * real(kind, q)), Fraction(1, 10 ** 90))
                    if q != (0, 0, 1):
                        self.assertEqual(by(kind, made, q), p)
                        self.assertEqual(times(kind, by(kind, p, q), q), p)

    def test_mates_and_norms(self):
        self.assertEqual(mate(5, (0, 1, 1)), (1, -1, 1))
        self.assertEqual(mate(2, (1, 1, 3)), (1, -1, 3))
        self.assertEqual(norm(3, (2, 1, 1)), (1, 0, 1))
        self.assertEqual(norm(2, (1, 1, 2)), (-1, 0, 4))
        self.assertEqual(norm(5, (0, 1, 1)), (-1, 0, 1))
        for kind in KINDS:
            for p in NUMBERS:
                self.assertEqual(mate(kind, self.same_by_name(mate, kind, p)), p)
                self.assertEqual(self.same_by_name(norm, kind, p), times(kind, p, mate(kind, p)))
                self.assertEqual(norm(kind, p)[1], 0)

    def test_signs_and_comparisons(self):
        self.assertEqual([sign(2, (3, -2, 1)), compared(5, (0, 1, 1), (8, 0, 5))], [1, 1])
        for kind in KINDS:
            for p in NUMBERS:
                value = real(kind, p)
                self.assertEqual(self.same_by_name(sign, kind, p), (value > 0) - (value < 0))
                for q in NUMBERS:
                    other = real(kind, q)
                    self.assertEqual(self.same_by_name(compared, kind, p, q), (value > other) - (value < other))

    def test_numbers_very_near_to_others(self):
        for kind in KINDS:
            for p in long_numbers(kind):
                # The powers of a mate below 0 are above it and below it in turn.
                expected = 1 if norm(kind, p)[0] == 1 else -1
                self.assertEqual(sign(kind, p), expected if mate(kind, p)[0] > 0 else -expected)
                a, b, n = p
                self.assertEqual(sign(kind, (-a, -b, n)), -sign(kind, p))
                for k in (-2, 0, 1, 10 ** 50):
                    near = plus(p, (k, 0, 1))
                    self.assertEqual(floor_of(kind, near), k if sign(kind, p) > 0 else k - 1)
                    self.assertEqual(compared(kind, near, (k, 0, 1)), sign(kind, p))
                    self.assertEqual(about(kind, near, 0), floor_of(kind, near))

    def test_floors(self):
        self.assertEqual(floor_of(3, (0, 2, 1)), 3)
        self.assertEqual(about(2, (0, 1, 1), 3), 1414)
        self.assertEqual(about(5, (0, -1, 1), 2), -162)
        self.assertEqual(about(2, (0, 1, 1), 60), 1414213562373095048801688724209698078569671875376948073176679)
        self.assertEqual(floor_of(2, (-4, 0, 1)), -4)
        self.assertEqual(floor_of(2, (-7, 0, 2)), -4)
        self.assertEqual(about(3, (-1, 0, 3), 1), -4)
        source = new_source(2)
        for kind in KINDS:
            for _ in range(100):
                p = number(source.randint(-999, 999), source.randint(-999, 999), source.randint(1, 12))
                self.assertEqual(self.same_by_name(floor_of, kind, p), floor(real(kind, p)))
                n = source.randint(0, 20)
                self.assertEqual(self.same_by_name(about, kind, p, n), floor(real(kind, p) * 10 ** n))

    def test_denominators_of_any_size(self):
        n = 10 ** 50 + 1
        for kind in KINDS:
            p = number(n * n + 1, n + 3, n * n)
            self.assertEqual(floor_of(kind, p), 1)
            self.assertEqual(by(kind, times(kind, p, p), p), p)
            self.assertEqual(compared(kind, p, (1, 0, 1)), 1)

    def test_units(self):
        self.assertEqual([self.same_by_name(unit, kind) for kind in KINDS], [(1, 1, 1), (2, 1, 1), (0, 1, 1)])
        self.assertEqual([self.same_by_name(stretch_unit, kind) for kind in KINDS], [(3, 2, 1), (2, 1, 1), (1, 1, 1)])
        for kind in KINDS:
            units = [(a, b) for a in range(-9, 10) for b in range(-9, 10)
                     if norm(kind, (a, b, 1))[0] in (1, -1) and compared(kind, (a, b, 1), (1, 0, 1)) > 0]
            least = min(units, key=lambda pair: pair[0] + pair[1] * OMEGAS[kind])
            self.assertEqual(unit(kind), least + (1,))
            above = [pair for pair in units if sign(kind, mate(kind, pair + (1,))) > 0]
            self.assertEqual(stretch_unit(kind), min(above, key=lambda pair: pair[0] + pair[1] * OMEGAS[kind]) + (1,))

    def test_wrong_kinds_come_first(self):
        for kind in WRONG_KINDS:
            for function in (times, by, compared):
                self.refused(InvalidKind, kind, function, kind, (1, 0, 1), (1, 0, 1))
                self.refused(InvalidKind, kind, function, kind, None, (0, 0, 1))
            for function in (mate, norm, sign, floor_of):
                self.refused(InvalidKind, kind, function, kind, (1, 0, 1))
                self.refused(InvalidKind, kind, function, kind, None)
            for function in (unit, stretch_unit):
                self.refused(InvalidKind, kind, function, kind)
            self.refused(InvalidKind, kind, about, kind, None, -1)

    def test_wrong_numbers_come_from_the_left(self):
        good = (1, 2, 3)
        for wrong in WRONG_NUMBERS:
            for function in (plus, minus):
                self.refused(InvalidNumber, wrong, function, wrong, "other")
                self.refused(InvalidNumber, wrong, function, good, wrong)
            for function in (times, by, compared):
                self.refused(InvalidNumber, wrong, function, 2, wrong, (0, 0, 1))
                self.refused(InvalidNumber, wrong, function, 3, good, wrong)
            for function in (mate, norm, sign, floor_of):
                self.refused(InvalidNumber, wrong, function, 5, wrong)
            self.refused(InvalidNumber, wrong, scaled, wrong, None)
            self.refused(InvalidNumber, wrong, about, 2, wrong, -1)

    def test_wrong_integers(self):
        for wrong in (None, True, 2.0, "2", (2,)):
            self.refused(InvalidNumber, wrong, scaled, (1, 0, 1), wrong)
            self.refused(InvalidNumber, wrong, about, 2, (1, 0, 1), wrong)
        self.refused(InvalidNumber, -1, about, 2, (1, 0, 1), -1)

    def test_division_by_zero(self):
        for kind in KINDS:
            self.refused(DividedByZero, (1, 2, 3), by, kind, (1, 2, 3), (0, 0, 1))
            self.refused(DividedByZero, (0, 0, 1), by, kind, (0, 0, 1), (0, 0, 1))

    def test_forms_of_what_is_returned(self):
        for value in (number(1, 2, 3), plus((1, 2, 3), (0, 0, 1)), times(2, (1, 2, 3), (3, 0, 1)), mate(5, (1, 2, 3))):
            self.assertIs(type(value), tuple)
            self.assertEqual([type(part) for part in value], [int, int, int])
            self.assertEqual(gcd(*value), 1)


if __name__ == "__main__":
    unittest.main()

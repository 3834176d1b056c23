"""Point 3: polynomials."""

import unittest
from fractions import Fraction

from blendcurves.polys import add, common, composed, divide, integral, multiply, slope, value
from tests.helper import HUGE, ONE, Case, Source, number_of, poly, product, ratio_of, ratios
from tests.helper import value_of, with_roots

X = poly(0, 1)
TOP = poly(*[0] * 12, 3)
FULL = poly(*range(1, 14))
PLACES = [Fraction(0), Fraction(1), Fraction(-3, 2), Fraction(7, 3), Fraction(-11)]


class Value(Case):
    def test_zero_and_constants(self):
        for x in PLACES:
            self.same(value((), ratio_of(x)), (0, 1))
            self.same(value(((-5, 7),), ratio_of(x)), (-5, 7))

    def test_many(self):
        source = Source(31)
        for degree in range(13):
            for x in PLACES:
                one = source.poly(degree)
                self.same(value(one, ratio_of(x)), ratio_of(value_of(one, x)))

    def test_large(self):
        one = poly(HUGE, -HUGE, Fraction(1, HUGE))
        self.same(value(one, (HUGE, 1)), ratio_of(value_of(one, HUGE)))


class AddAndMultiply(Case):
    def test_zero(self):
        for one in ((), X, FULL):
            self.same(add((), one), one)
            self.same(add(one, ()), one)
            self.same(multiply((), one), ())
            self.same(multiply(one, ()), ())

    def test_sums_lose_zeros(self):
        self.same(add(poly(1, 2, 3), poly(1, 2, -3)), poly(2, 4))
        self.same(add(poly(1, 2, 3), poly(-1, -2, -3)), ())
        self.same(add(poly(0, 0, 1), poly(1)), poly(1, 0, 1))
        self.same(add(FULL, FULL), poly(*range(2, 28, 2)))

    def test_many(self):
        source = Source(32)
        for degree in range(13):
            one, other = source.poly(degree), source.poly(12 - degree)
            self.same(multiply(one, other), product(one, other))
            for x in PLACES:
                due = value_of(one, x) + value_of(other, x)
                self.assertEqual(value_of(add(one, other), x), due)

    def test_too_large(self):
        self.same(multiply(TOP, poly(5)), poly(*[0] * 12, 15))
        self.same(multiply(TOP, ()), ())
        for one, other in [(TOP, X), (X, TOP), (TOP, TOP), (poly(*[0] * 6, 1), poly(*[0] * 7, 1))]:
            self.fails("TooLarge", multiply, one, other, most=12)
        self.fails("BadPolynomial", multiply, TOP, [X])
        self.fails("BadPolynomial", multiply, TOP + (ONE,), X)


class Divide(Case):
    def test_ordinary(self):
        self.same(divide(poly(-1, 0, 1), poly(1, 1)), (poly(-1, 1), ()))
        self.same(divide(poly(1, 0, 1), poly(1, 1)), (poly(-1, 1), poly(2)))
        self.same(divide(poly(0, 1), poly(0, 0, 1)), ((), poly(0, 1)))
        self.same(divide((), poly(3)), ((), ()))
        self.same(divide(FULL, poly(2)), (poly(*[Fraction(k, 2) for k in range(1, 14)]), ()))
        self.same(divide(poly(1, 0, 0, 1), poly(0, 0, 1)), (poly(0, 1), poly(1)))

    def test_many(self):
        source = Source(33)
        for _ in range(60):
            one = source.poly(source.random.randint(-1, 12))
            other = source.poly(source.random.randint(0, 12))
            quotient, rest = divide(one, other)
            self.assertLess(len(rest), len(other))
            self.assertEqual(len(quotient), max(len(one) - len(other) + 1, 0))
            self.same(add(multiply(quotient, other), rest), one)

    def test_by_zero(self):
        for one in ((), X, FULL):
            self.fails("DividesByZero", divide, one, ())
        self.fails("BadPolynomial", divide, None, ())
        self.fails("BadPolynomial", divide, X, None)


class Common(Case):
    def test_zero_and_constants(self):
        self.same(common((), ()), ())
        self.same(common((), poly(2, 4)), poly(Fraction(1, 2), 1))
        self.same(common(poly(2, 4), ()), poly(Fraction(1, 2), 1))
        self.same(common(poly(-3), ()), poly(1))
        self.same(common(poly(5), poly(7)), poly(1))
        self.same(common(poly(5), FULL), poly(1))
        self.same(common(FULL, poly(Fraction(-1, 5))), poly(1))

    def test_no_common_root(self):
        self.same(common(with_roots(1, 2, 3), with_roots(4, 5)), poly(1))
        self.same(common(poly(1, 0, 1), poly(-2, 0, 1)), poly(1))

    def test_common_roots(self):
        for shared in [(1,), (2, 2), (Fraction(1, 3), -4, -4, 0), (5, 6, 7, 8, 9, 10)]:
            one = product(with_roots(*shared), with_roots(-1, -1, -2), poly(-6))
            other = product(poly(Fraction(2, 7)), with_roots(*shared), poly(1, 0, 3))
            self.same(common(one, other), with_roots(*shared))
            self.same(common(other, one), with_roots(*shared))
        same = product(poly(3), with_roots(1, 1, 2))
        self.same(common(same, same), with_roots(1, 1, 2))


class SlopeAndIntegral(Case):
    def test_slope(self):
        self.same(slope(()), ())
        self.same(slope(poly(7)), ())
        self.same(slope(poly(7, -3)), poly(-3))
        self.same(slope(poly(1, 0, Fraction(1, 2), 2)), poly(0, 1, 6))
        self.same(slope(FULL), poly(*[k * (k + 1) for k in range(1, 13)]))

    def test_integral(self):
        unit = ratios(0, 1)
        self.same(integral((), *unit), (0, 1))
        self.same(integral(poly(3), *ratios(2, "7/2")), (9, 2))
        self.same(integral(X, *unit), (1, 2))
        self.same(integral(poly(0, 0, 3), *ratios(-1, 2)), (9, 1))
        self.same(integral(poly(*[0] * 12, 13), *ratios(0, 2)), (2 ** 13, 1))

    def test_integral_in_any_order(self):
        self.same(integral(X, *ratios(1, 0)), (-1, 2))
        self.same(integral(FULL, (2, 3), (2, 3)), (0, 1))
        source = Source(34)
        for _ in range(40):
            one = source.poly(source.random.randint(0, 12))
            low, high = source.number(), source.number()
            due = sum(number_of(item) / (k + 1) * (high ** (k + 1) - low ** (k + 1))
                      for k, item in enumerate(one))
            self.same(integral(one, ratio_of(low), ratio_of(high)), ratio_of(due))


class Composed(Case):
    def test_zero_and_constants(self):
        self.same(composed((), FULL), ())
        self.same(composed((), ()), ())
        self.same(composed(poly(4), FULL), poly(4))
        self.same(composed(poly(4, 5), ()), poly(4))
        self.same(composed(poly(0, 5, 1), ()), ())
        self.same(composed(FULL, poly(-1)), ratios(value_of(FULL, -1)))
        self.same(composed(with_roots(1, 2), poly(2)), ())
        self.same(composed((), TOP), ())
        self.same(composed(TOP, ()), ())
        self.same(composed(poly(2), TOP), poly(2))
        self.same(composed(TOP, poly(2)), poly(3 * 2 ** 12))

    def test_direction(self):
        self.same(composed(poly(0, 0, 1), poly(1, 1)), poly(1, 2, 1))
        self.same(composed(poly(1, 1), poly(0, 0, 1)), poly(1, 0, 1))

    def test_many(self):
        source = Source(35)
        for m, n in [(1, 12), (12, 1), (2, 6), (6, 2), (3, 4), (4, 3), (2, 5), (0, 12), (12, 0)]:
            one, other = source.poly(m), source.poly(n)
            answer = composed(one, other)
            self.assertEqual(len(answer), m * n + 1 if n else 1)
            for x in PLACES:
                self.assertEqual(value_of(answer, x), value_of(one, value_of(other, x)))

    def test_too_large(self):
        for m, n in [(13, 1), (2, 7), (7, 2), (4, 4), (12, 2), (2, 12), (12, 12), (3, 5)]:
            one, other = poly(*[1] * min(m + 1, 13)), poly(*[1] * (n + 1))
            if m > 12:
                self.fails("BadPolynomial", composed, one + (ONE,), other)
            else:
                self.fails("TooLarge", composed, one, other, most=12)
                self.fails("BadPolynomial", composed, one, other[:-1] + ((0, 1),))


class Kept(Case):
    def test_degree_12_is_no_error(self):
        self.same(add(TOP, ()), TOP)
        self.same(divide(TOP, poly(1))[0], TOP)
        self.same(common(TOP, ()), poly(*[0] * 12, 1))
        self.same(multiply(poly(*[0] * 6, 1), poly(*[0] * 6, 3)), TOP)
        self.same(composed(TOP, X), TOP)
        self.assertEqual(len(slope(TOP)), 12)


if __name__ == "__main__":
    unittest.main()

"""Points 6 to 8: rows of control numbers."""

import unittest
from fractions import Fraction
from math import comb

from blendcurves.beziers import lowered, poly_of, raised, row_mean, row_of, row_product, row_value
from blendcurves.beziers import slopes, split
from blendcurves.blossoms import blossom
from blendcurves.polys import composed, integral, multiply, slope
from tests.helper import HUGE, ONE, Case, Source, number_of, numbers_of, poly, ratio_of, ratios
from tests.helper import value_of

UNIT = ratios(0, 1)
PLACES = [Fraction(0), Fraction(1), Fraction(1, 2), Fraction(2, 7), Fraction(-3), Fraction(5, 2)]


def bernstein(row, t):
    """The value of a row by the sum that the document gives."""
    n = len(row) - 1
    return sum(
        number * comb(n, i) * (1 - t) ** (n - i) * t ** i for i, number in enumerate(numbers_of(row))
    )


def some_rows(seed):
    source = Source(seed)
    return [source.row(degree) for degree in range(9) for _ in range(3)]


class Values(Case):
    def test_ordinary(self):
        self.same(row_value(ratios(0, 1, 0), (1, 2)), (1, 2))
        self.same(row_value(ratios(3), (HUGE, 7)), (3, 1))
        self.same(row_value(ratios(1, 5), (-1, 1)), (-3, 1))
        self.same(row_value(ratios(1, 5), (2, 1)), (9, 1))

    def test_many(self):
        for row in some_rows(61):
            for t in PLACES:
                self.same(row_value(row, ratio_of(t)), ratio_of(bernstein(row, t)))


class PolysAndRows(Case):
    def test_ordinary(self):
        self.same(poly_of(ratios(0, 1, 0), UNIT), poly(0, 2, -2))
        self.same(poly_of(ratios(4), ratios(-3, 8)), poly(4))
        self.same(poly_of(ratios(0, 0, 0), UNIT), ())
        self.same(poly_of(ratios(2, 2, 2), ratios(5, 6)), poly(2))
        self.same(poly_of(ratios(2, 4), ratios(2, 4)), poly(0, 1))
        self.same(row_of(poly(0, 1), 3, UNIT), ratios(0, "1/3", "2/3", 1))
        self.same(row_of((), 2, UNIT), ratios(0, 0, 0))
        self.same(row_of((), 0, UNIT), ratios(0))
        self.same(row_of(poly(5), 0, ratios(3, 4)), ratios(5))
        self.same(row_of(poly(0, 0, 1), 2, ratios(1, 3)), ratios(1, 3, 9))

    def test_poly_of(self):
        source = Source(62)
        for row in some_rows(63):
            low, high = source.interval()
            one = poly_of(row, (low, high))
            self.assertLessEqual(len(one), len(row))
            for t in PLACES:
                x = number_of(low) + t * (number_of(high) - number_of(low))
                self.assertEqual(value_of(one, x), bernstein(row, t))

    def test_there_and_back(self):
        source = Source(64)
        for row in some_rows(65):
            interval = source.interval()
            one = poly_of(row, interval)
            self.same(row_of(one, len(row) - 1, interval), row)
            for degree in range(max(len(one) - 1, 0), 9):
                longer = row_of(one, degree, interval)
                self.assertEqual(len(longer), degree + 1)
                self.same(poly_of(longer, interval), one)

    def test_blossoms(self):
        source = Source(66)
        for row in some_rows(67):
            low, high = source.interval()
            n = len(row) - 1
            one = poly_of(row, (low, high))
            for i, number in enumerate(row):
                self.same(blossom(one, n, (low,) * (n - i) + (high,) * i), number)

    def test_degree(self):
        self.fails("BadDegree", row_of, poly(0, 0, 1), 1, UNIT)
        self.fails("BadDegree", row_of, poly(*[0] * 9, 1), 9, UNIT)
        self.fails("BadDegree", row_of, poly(*[0] * 9, 1), 8, None)
        self.fails("BadDegree", row_of, (), -1, UNIT)
        self.fails("BadDegree", row_of, (), 9, UNIT)
        self.same(row_of(poly(*[0] * 8, 1), 8, UNIT), ratios(*[0] * 8, 1))

    def test_nine_numbers(self):
        row = ratios(*range(9))
        self.same(poly_of(row, UNIT), poly(0, 8))
        self.fails("BadRow", poly_of, row + (ONE,), UNIT, index=None)
        self.fails("BadRow", row_value, (), ONE, index=None)
        self.fails("BadRow", row_value, (ONE, (2, 2), 1), None, index=1)


class RaisedAndLowered(Case):
    def test_ordinary(self):
        self.same(raised(ratios(0, 1)), ratios(0, "1/2", 1))
        self.same(raised(ratios(7)), ratios(7, 7))
        self.same(raised(ratios(0, 3, 0)), ratios(0, 2, 2, 0))
        self.same(lowered(ratios(0, 1, 0)), None)
        self.same(lowered(ratios(0, 2, 2, 0)), ratios(0, 3, 0))

    def test_same_polynomial(self):
        for row in some_rows(71):
            if len(row) < 9:
                longer = raised(row)
                self.assertEqual(len(longer), len(row) + 1)
                self.same(poly_of(longer, UNIT), poly_of(row, UNIT))
                self.same(lowered(longer), row)

    def test_too_large(self):
        self.assertEqual(len(raised(ratios(*range(8)))), 9)
        self.fails("TooLarge", raised, ratios(*range(9)), most=8)
        self.fails("BadRow", raised, ratios(*range(8)) + (None,), index=8)

    def test_none(self):
        self.same(lowered(ratios(5)), None)
        self.same(lowered(ratios(0)), None)
        self.same(lowered(ratios(1, 2)), None)
        self.same(lowered(ratios(2, 2)), ratios(2))
        for degree in range(1, 9):
            self.same(lowered(row_of(poly(*[0] * degree, 1), degree, UNIT)), None)
            self.same(lowered(ratios(*[3] * (degree + 1))), ratios(*[3] * degree))

    def test_lowered_by_degree(self):
        for row in some_rows(72):
            one = poly_of(row, UNIT)
            n = len(row) - 1
            if n > 0 and len(one) <= n:
                self.same(lowered(row), row_of(one, n - 1, UNIT))
            else:
                self.same(lowered(row), None)


class Split(Case):
    def test_ordinary(self):
        due = (ratios(0, "1/2", "1/2"), ratios("1/2", "1/2", 0))
        self.same(split(ratios(0, 1, 0), (1, 2)), due)
        self.same(split(ratios(4), (-3, 1)), (ratios(4), ratios(4)))
        self.same(split(ratios(1, 5), (1, 4)), (ratios(1, 2), ratios(2, 5)))

    def test_ends(self):
        for row in some_rows(73):
            self.same(split(row, (0, 1)), ((row[0],) * len(row), row))
            self.same(split(row, (1, 1)), (row, (row[-1],) * len(row)))

    def test_any_place(self):
        for row in some_rows(74):
            one = poly_of(row, UNIT)
            for t in PLACES:
                left, right = split(row, ratio_of(t))
                self.assertEqual((len(left), len(right)), (len(row), len(row)))
                self.same(poly_of(left, UNIT), composed(one, poly(0, t)))
                self.same(poly_of(right, UNIT), composed(one, poly(t, 1 - t)))


class SlopesProductsMeans(Case):
    def test_slopes(self):
        self.same(slopes(ratios(0, 1, 0)), ratios(2, -2))
        self.same(slopes(ratios(9)), ratios(0))
        self.same(slopes(ratios(1, 4)), ratios(3))
        for row in some_rows(81):
            self.assertEqual(len(slopes(row)), max(len(row) - 1, 1))
            self.same(poly_of(slopes(row), UNIT), slope(poly_of(row, UNIT)))

    def test_product(self):
        self.same(row_product(ratios(0, 1), ratios(1, 0)), ratios(0, "1/2", 0))
        self.same(row_product(ratios(3), ratios(1, "2/3")), ratios(3, 2))
        self.same(row_product(ratios(0), ratios(1, 2, 3)), ratios(0, 0, 0))
        for one in some_rows(82):
            for other in some_rows(83):
                if len(one) + len(other) > 10:
                    continue
                found = row_product(one, other)
                self.assertEqual(len(found), len(one) + len(other) - 1)
                due = multiply(poly_of(one, UNIT), poly_of(other, UNIT))
                self.same(poly_of(found, UNIT), due)

    def test_product_too_large(self):
        for m, n in [(8, 1), (1, 8), (5, 4), (8, 8)]:
            one, other = ratios(*range(m + 1)), ratios(*range(n + 1))
            self.fails("TooLarge", row_product, one, other, most=8)
            self.fails("BadRow", row_product, one, other[:-1] + ((2, 2),), index=n)
        self.assertEqual(len(row_product(ratios(*range(9)), ratios(2))), 9)

    def test_mean(self):
        self.same(row_mean(ratios(0, 1, 0)), (1, 3))
        self.same(row_mean(ratios(-5)), (-5, 1))
        for row in some_rows(84):
            self.same(row_mean(row), integral(poly_of(row, UNIT), *UNIT))


if __name__ == "__main__":
    unittest.main()

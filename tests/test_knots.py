"""Points 12 and 13: knots, basis functions, greville, coefficients."""

import unittest
from fractions import Fraction
from itertools import combinations
from math import comb, prod

from blendcurves.knots import basis_pieces, basis_value, coefficients, greville
from tests.helper import HUGE, ONE, Case, Source, basis, number_of, numbers_of, poly, ratio_of
from tests.helper import ratios, value_of, wrong_knots

HAT = ratios(0, 1, 2)
# Pairs of a degree and knots, some of them standing degree + 1 times, at the ends and within.
KNOTS = [
    (0, ratios(0, 1)), (0, ratios(-1, "1/2", 3, 7)), (0, ratios(*range(16))),
    (1, HAT), (1, ratios(0, 0, 1, 2, 2)), (1, ratios(0, 0, 1, 1, 2)), (1, ratios(0, 1, 1, 2, 2)),
    (2, ratios(0, 0, 0, 1, 1, 1)), (2, ratios(0, 1, 1, 1, 2, 3)), (2, ratios(0, 1, 2, 3)),
    (2, ratios(-2, -2, "-1/3", 0, 0, 5, 5, 5)), (3, ratios(0, 1, 2, 3, 4)),
    (3, ratios(0, 0, 0, 0, 1, 1, 1, 1)), (3, ratios(0, 1, 1, 1, 1, 2, 2, 3, "7/2", "7/2", 9)),
    (4, ratios(0, 0, 0, 0, 0, 1, 3, 3, 3, 3, 3, 4, 5, 5, 5, 5)), (4, ratios(*range(6))),
    (4, ratios(*[0] * 5, *[1] * 5)), (4, ratios(*range(-8, 8))), (3, ratios(0, 0, 0, 0, HUGE)),
]


def places_of(knots):
    """The knots, places between them and places outside."""
    numbers = numbers_of(knots)
    found = numbers + [(one + other) / 2 for one, other in zip(numbers, numbers[1:])]
    found += [(2 * one + 7 * other) / 9 for one, other in zip(numbers, numbers[1:])]
    return sorted(set(found + [numbers[0] - 1, numbers[-1] + 1, numbers[-1] + HUGE]))


def count(degree, knots):
    return len(knots) - degree - 1


class BasisValue(Case):
    def test_ordinary(self):
        for x, due in [(-1, 0), (0, 0), ("1/2", "1/2"), (1, 1), ("3/2", "1/2"), (2, 0), (3, 0)]:
            self.same(basis_value(1, HAT, 0, ratio_of(x)), ratio_of(due))
        self.same(basis_value(2, ratios(0, 1, 2, 3), 0, (3, 2)), (3, 4))
        self.same(basis_value(3, ratios(0, 1, 2, 3, 4), 0, (2, 1)), (2, 3))

    def test_degree_0(self):
        knots = ratios(0, 1, "5/2")
        for x, due in [(-1, (0, 0)), (0, (1, 0)), ("1/2", (1, 0)), (1, (0, 1)), (2, (0, 1)),
                       ("5/2", (0, 0)), (3, (0, 0))]:
            for index in (0, 1):
                self.same(basis_value(0, knots, index, ratio_of(x)), ratio_of(due[index]))

    def test_many(self):
        for degree, knots in KNOTS:
            for index in range(count(degree, knots)):
                for x in places_of(knots):
                    due = basis(degree, numbers_of(knots), index, x)
                    self.same(basis_value(degree, knots, index, ratio_of(x)), ratio_of(due))

    def test_knots_that_stand_often(self):
        # From the left the first one comes to 1 at the knot 1, at which the next one begins.
        knots = ratios(0, 1, 1, 2)
        self.same(basis_value(1, knots, 0, (99, 100)), (99, 100))
        self.same(basis_value(1, knots, 0, ONE), (0, 1))
        self.same(basis_value(1, knots, 1, ONE), (1, 1))
        self.same(basis_value(1, ratios(0, 0, 1), 0, (0, 1)), (1, 1))
        self.same(basis_value(1, ratios(0, 1, 1), 0, ONE), (0, 1))

    def test_last_knot(self):
        for degree, knots in KNOTS:
            for index in range(count(degree, knots)):
                self.same(basis_value(degree, knots, index, knots[-1]), (0, 1))

    def test_sum_is_1(self):
        for degree, knots in KNOTS:
            many = count(degree, knots)
            for x in places_of(knots):
                if many > degree and number_of(knots[degree]) <= x < number_of(knots[many]):
                    total = sum(number_of(basis_value(degree, knots, index, ratio_of(x)))
                                for index in range(many))
                    self.assertEqual(total, 1)

    def test_no_interval_is_no_knots(self):
        # A basis function without an interval would have a knot degree + 2 times.
        for degree in range(5):
            knots = (ONE,) * (degree + 2)
            self.fails("BadKnots", basis_value, degree, knots, 0, ONE, index=degree + 1)
            self.fails("BadKnots", basis_pieces, degree, knots, 0, index=degree + 1)

    def test_numbers(self):
        for degree, knots in KNOTS:
            for index in (-1, count(degree, knots), True, False, None, "0", (0, 1), HUGE):
                self.fails("BadNumber", basis_value, degree, knots, index, ONE)
                self.fails("BadNumber", basis_pieces, degree, knots, index)


class BasisPieces(Case):
    def test_ordinary(self):
        due = ((ratios(0, 1), poly(0, 1)), (ratios(1, 2), poly(2, -1)))
        self.same(basis_pieces(1, HAT, 0), due)
        self.same(basis_pieces(0, HAT, 1), ((ratios(1, 2), poly(1)),))
        self.same(basis_pieces(1, ratios(0, 1, 1, 2), 0), ((ratios(0, 1), poly(0, 1)),))
        self.same(basis_pieces(1, ratios(0, 1, 1, 2), 1), ((ratios(1, 2), poly(2, -1)),))
        due = (
            (ratios(0, 1), poly(0, 0, "1/2")),
            (ratios(1, 2), poly("-3/2", 3, -1)),
            (ratios(2, 3), poly("9/2", -3, "1/2")),
        )
        self.same(basis_pieces(2, ratios(0, 1, 2, 3), 0), due)

    def test_intervals(self):
        for degree, knots in KNOTS:
            for index in range(count(degree, knots)):
                support = sorted(set(numbers_of(knots[index:index + degree + 2])))
                due = tuple(ratios(*ends) for ends in zip(support, support[1:]))
                found = tuple(piece[0] for piece in basis_pieces(degree, knots, index))
                self.same(found, due)
                self.assertTrue(found)

    def test_values(self):
        for degree, knots in KNOTS:
            for index in range(count(degree, knots)):
                for interval, one in basis_pieces(degree, knots, index):
                    self.assertTrue(0 < len(one) <= degree + 1)
                    low, high = numbers_of(interval)
                    for part in (Fraction(0), Fraction(1, 3), Fraction(2, 3), Fraction(99, 100)):
                        x = low + part * (high - low)
                        due = basis(degree, numbers_of(knots), index, x)
                        self.assertEqual(value_of(one, x), due)


class Greville(Case):
    def test_ordinary(self):
        self.same(greville(2, ratios(0, 0, 0, 1, 1, 1)), ratios(0, "1/2", 1))
        self.same(greville(1, HAT), ratios(1))
        self.same(greville(3, ratios(0, 1, 3, 4, 9, 10)), ratios("8/3", "16/3"))

    def test_many(self):
        for degree, knots in KNOTS:
            if degree > 0:
                numbers = numbers_of(knots)
                due = [sum(numbers[i + 1:i + degree + 1]) / degree
                       for i in range(count(degree, knots))]
                self.same(greville(degree, knots), ratios(*due))

    def test_degree_0(self):
        self.fails("BadDegree", greville, 0, HAT)
        self.fails("BadDegree", greville, 0, None)


class Coefficients(Case):
    def test_ordinary(self):
        self.same(coefficients(poly(0, 1), 1, ratios(0, 0, 1, 1)), ratios(0, 1))
        self.same(coefficients(poly(0, 0, 1), 2, ratios(0, 1, 2, 3, 4)), ratios(2, 6))
        self.same(coefficients(poly(5), 0, HAT), ratios(5, 5))
        self.same(coefficients((), 0, HAT), ratios(0, 0))
        self.same(coefficients((), 1, HAT), ratios(0))

    def test_blossoms(self):
        source = Source(131)
        for degree, knots in KNOTS:
            numbers = numbers_of(knots)
            for lower in range(-1, degree + 1):
                one = source.poly(lower)
                due = [
                    sum(number_of(item) * sum(map(prod, combinations(inner, k))) / comb(degree, k)
                        for k, item in enumerate(one))
                    for inner in [numbers[i + 1:i + degree + 1] for i in range(count(degree, knots))]
                ]
                self.same(coefficients(one, degree, knots), ratios(*due))

    def test_sum_is_the_polynomial(self):
        source = Source(132)
        for degree, knots in KNOTS:
            one, many = source.poly(degree), count(degree, knots)
            found = numbers_of(coefficients(one, degree, knots))
            for x in places_of(knots):
                if many > degree and number_of(knots[degree]) <= x < number_of(knots[many]):
                    values = [number_of(basis_value(degree, knots, index, ratio_of(x)))
                              for index in range(many)]
                    total = sum(one * other for one, other in zip(found, values))
                    self.assertEqual(total, value_of(one, x))

    def test_means_for_x(self):
        for degree, knots in KNOTS:
            if degree > 0:
                self.same(coefficients(poly(0, 1), degree, knots), greville(degree, knots))

    def test_degree_of_the_polynomial(self):
        for degree in range(5):
            knots = ratios(*range(degree + 2))
            self.assertEqual(len(coefficients(poly(*[1] * (degree + 1)), degree, knots)), 1)
            for higher in range(degree + 1, 13):
                one = poly(*[0] * higher, 1)
                self.fails("BadDegree", coefficients, one, degree, knots)
                self.fails("BadDegree", coefficients, one, degree, None)
        self.fails("BadDegree", coefficients, poly(1), 5, ratios(*range(8)))
        self.fails("BadDegree", coefficients, (), -1, ratios(*range(8)))
        self.fails("BadDegree", coefficients, (), 5, ratios(*range(8)))


class Knots(Case):
    def test_index(self):
        for degree in range(5):
            for knots, (name, fields) in wrong_knots(degree):
                self.fails(name, basis_value, degree, knots, 0, ONE, **fields)
                self.fails(name, basis_pieces, degree, knots, 0, **fields)
                self.fails(name, coefficients, (), degree, knots, **fields)
                if degree > 0:
                    self.fails(name, greville, degree, knots, **fields)

    def test_first_wrong_item(self):
        for knots, index in [
            (ratios(0, 0, 1, 1, 1, 0), 4), (ratios(0, 0, 1, 1, 0, 0), 4), (ratios(0, 0, 0, -1), 2),
            (ratios(1, 0) + (None,), 1), ((None,) + ratios(1, 0), 0),
            (ratios(0, 0, 1, 1, 2, 2, 2), 6), (ratios(0, 0) + ((0, 2), ONE), 2),
        ]:
            self.fails("BadKnots", greville, 1, knots, index=index)

    def test_how_many(self):
        for degree in range(1, 5):
            self.assertEqual(len(greville(degree, ratios(*range(16)))), 15 - degree)
            self.assertEqual(len(greville(degree, ratios(*range(degree + 2)))), 1)
            for many in list(range(degree + 2)) + [17, 30]:
                self.fails("BadKnots", greville, degree, ratios(*range(many)), index=None)


if __name__ == "__main__":
    unittest.main()

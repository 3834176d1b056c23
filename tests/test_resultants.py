"""Point 25: resultant and discriminant."""

import unittest
from fractions import Fraction
from itertools import combinations
from math import prod

from blendcurves.polys import multiply
from blendcurves.resultants import discriminant, resultant
from tests.helper import WRONG_NONZERO, Case, Source, number_of, poly, product, ratio_of, value_of
from tests.helper import with_roots

SQUARE = poly(-1, 0, 1)


def times(top, *roots):
    """The polynomial with these roots and this last coefficient."""
    return product(poly(top), with_roots(*roots))


def of_roots(top, roots, more, others):
    """The resultant of two polynomials by their last coefficients and roots."""
    return (Fraction(top) ** len(others) * Fraction(more) ** len(roots)
            * prod([one - other for one in roots for other in others], start=Fraction(1)))


class Resultant(Case):
    def test_ordinary(self):
        self.same(resultant(SQUARE, poly(-2, 1)), (3, 1))
        self.same(resultant(poly(-2, 1), SQUARE), (3, 1))
        self.same(resultant(poly(0, 1), poly(1, 1)), (1, 1))
        self.same(resultant(poly(1, 1), poly(0, 1)), (-1, 1))
        self.same(resultant(poly(3, 2), poly(5, 7)), (-11, 1))
        self.same(resultant(poly(1, 1, 1), poly("1/2", 1)), (3, 4))

    def test_degree_0(self):
        self.same(resultant(poly(5), poly(-7)), (1, 1))
        self.same(resultant(poly("2/3"), poly(1, 1)), (2, 3))
        self.same(resultant(poly(1, 1), poly("2/3")), (2, 3))
        self.same(resultant(poly("2/3"), poly(4, 0, 0, 5)), (8, 27))
        self.same(resultant(poly(4, 0, 0, 5), poly(-2)), (-8, 1))
        self.same(resultant(poly(*[1] * 13), poly(-2)), (4096, 1))

    def test_roots(self):
        source = Source(251)
        for degree in range(6):
            for more in range(6):
                roots, others = source.many(degree), source.many(more)
                for top, last in ((1, 1), (Fraction(-2, 3), 5)):
                    found = resultant(times(top, *roots), times(last, *others))
                    self.same(found, ratio_of(of_roots(top, roots, last, others)))

    def test_degree_12(self):
        source = Source(252)
        roots, others = [Fraction(at) for at in range(12)], [Fraction(-at, 2) for at in range(1, 13)]
        due = of_roots(2, roots, Fraction(1, 3), others)
        self.same(resultant(times(2, *roots), times("1/3", *others)), ratio_of(due))
        for degree in (1, 5, 11):
            # By the values at the roots of the other one.
            one, others = source.poly(12), source.many(degree)
            due = prod([value_of(one, root) for root in others], start=Fraction(1))
            self.same(resultant(one, times(1, *others)), ratio_of(due * (-1) ** (12 * degree)))
            self.same(resultant(times(1, *others), one), ratio_of(due))

    def test_without_roots_that_are_ratios(self):
        # x * x + 1 and x * x - 2: (1 + 2) squared, and as they come of three of them.
        self.same(resultant(poly(1, 0, 1), poly(-2, 0, 1)), (9, 1))
        source = Source(253)
        for _ in range(20):
            one, two, three = source.poly(3), source.poly(2), source.poly(4)
            due = number_of(resultant(one, three)) * number_of(resultant(two, three))
            self.same(resultant(multiply(one, two), three), ratio_of(due))
            sign = (-1) ** (3 * 2)
            self.same(resultant(two, one), ratio_of(sign * number_of(resultant(one, two))))
            sign = (-1) ** (3 * 3)
            later = source.poly(3)
            self.same(resultant(later, one), ratio_of(sign * number_of(resultant(one, later))))

    def test_0_exactly_with_a_common_divisor(self):
        source = Source(254)
        for degree in range(1, 6):
            for more in range(1, 6):
                shared = source.poly(1)
                one, other = source.poly(degree - 1), source.poly(more - 1)
                self.same(resultant(product(one, shared), product(other, shared)), (0, 1))
        self.same(resultant(SQUARE, SQUARE), (0, 1))
        self.same(resultant(poly(0, 0, 1), poly(0, 1)), (0, 1))
        self.same(resultant(product(poly(1, 0, 1), SQUARE), product(poly(1, 0, 1), poly(5, 1))), (0, 1))
        # A common divisor of degree 0 makes no difference.
        self.assertNotEqual(resultant(poly(2, 2), poly(2, 4)), (0, 1))


class Discriminant(Case):
    def test_ordinary(self):
        self.same(discriminant(SQUARE), (4, 1))
        self.same(discriminant(poly(1, 0, 1)), (-4, 1))
        self.same(discriminant(poly(5, 3, 2)), (-31, 1))
        self.same(discriminant(poly(2, "-5/3", 0, 1)), (-2416, 27))

    def test_degrees_0_and_1(self):
        for one in (poly(1), poly(-7), poly("2/3"), poly(0, 5), poly(4, "-1/2")):
            self.same(discriminant(one), (1, 1))

    def test_squares(self):
        source = Source(255)
        for _ in range(20):
            a, b, c = source.number() or Fraction(1), source.number(), source.number()
            self.same(discriminant(poly(c, b, a)), ratio_of(b * b - 4 * a * c))

    def test_cubes(self):
        source = Source(256)
        for _ in range(20):
            p, q = source.number(), source.number()
            self.same(discriminant(poly(q, p, 0, 1)), ratio_of(-4 * p ** 3 - 27 * q ** 2))

    def test_roots(self):
        source = Source(257)
        for degree in range(2, 13):
            for top in (1, Fraction(-2, 3)):
                roots = [Fraction(at) for at in source.random.sample(range(-20, 21), degree)]
                due = Fraction(top) ** (2 * degree - 2)
                for one, other in combinations(roots, 2):
                    due *= (one - other) ** 2
                self.same(discriminant(times(top, *roots)), ratio_of(due))

    def test_repeated_roots(self):
        for roots in [(1, 1), (1, 2, 1), (0, 0, 0), (1, 2, 3, 4, 5, 6, 7, 8, 9, 10, 11, 11)]:
            self.same(discriminant(times(3, *roots)), (0, 1))
        self.same(discriminant(poly(1, 0, 2, 0, 1)), (0, 1))
        self.same(discriminant(poly(*[0] * 12, 1)), (0, 1))

    def test_signs_of_powers(self):
        # Of x to the power n, less 1: n to the power n with a sign that comes by fours.
        for degree in range(2, 13):
            sign = (-1) ** ((degree - 1) * (degree - 2) // 2)
            one = poly(-1, *[0] * (degree - 1), 1)
            self.same(discriminant(one), (sign * degree ** degree, 1))


class Wrong(Case):
    def test_polynomials(self):
        for value, (name, fields) in WRONG_NONZERO:
            self.fails(name, discriminant, value, **fields)
            self.fails(name, resultant, value, value, **fields)
            self.fails(name, resultant, SQUARE, value, **fields)
            self.fails(name, resultant, poly(1), value, **fields)
            self.fails(name, resultant, value, SQUARE, **fields)


if __name__ == "__main__":
    unittest.main()

"""Point 26: curves, their equations, and lines that cross them."""

import unittest
from fractions import Fraction
from math import gcd

from blendcurves.implicit import crossings, curve_point, implicit
from blendcurves.resultants import resultant
from tests.helper import HUGE, WRONG_INTERVAL, WRONG_RATIO, Case, Source, number_of, poly, product
from tests.helper import ratio_of, ratios, value_of, with_roots, wrong_curve, wrong_line

CUSP = (poly(0, 0, 1), poly(0, 0, 0, 1))
WIDE = ratios(-100, 100)


def value(terms, x, y):
    return sum((number * x ** i * y ** j for (i, j), number in terms), Fraction(0))


def less(one, number):
    """A polynomial less a Fraction."""
    return poly(value_of(one, 0) - number, *[number_of(item) for item in one[1:]])


def curves():
    source = Source(261)
    found = [CUSP]
    for high in (1, 2, 3):
        for wide in (1, 2, 3):
            found += [(source.poly(high), source.poly(wide)) for _ in range(4)]
    return found


class CurvePoint(Case):
    def test_ordinary(self):
        self.same(curve_point(CUSP, (2, 1)), ratios(4, 8))
        self.same(curve_point((poly(1, 2), poly(0, "1/2")), (1, 3)), ratios("5/3", "1/6"))

    def test_many(self):
        source = Source(262)
        for curve in curves():
            for t in source.many(3) + [Fraction(HUGE)]:
                due = ratios(value_of(curve[0], t), value_of(curve[1], t))
                self.same(curve_point(curve, ratio_of(t)), due)


class Implicit(Case):
    def test_ordinary(self):
        self.same(implicit(CUSP), (((0, 2), 1), ((3, 0), -1)))
        self.same(implicit((poly(0, 1), poly(0, 1))), (((0, 1), 1), ((1, 0), -1)))
        self.same(implicit((poly(1, 2), poly(3, -4))), (((0, 0), 5), ((0, 1), -1), ((1, 0), -2)))
        self.same(implicit((poly(0, "1/2"), poly(0, 0, "1/3"))), (((0, 1), 3), ((2, 0), -4)))
        self.same(implicit((poly(0, 1), poly(5, 1))), (((0, 0), 5), ((0, 1), -1), ((1, 0), 1)))

    def test_twice_over_the_same_points(self):
        self.same(implicit((poly(0, 0, 1), poly(0, 0, 2))),
                  (((0, 2), 1), ((1, 1), -4), ((2, 0), 4)))
        self.same(implicit((poly(0, 0, 0, 1), poly(0, 0, 0, 1))),
                  (((0, 3), 1), ((1, 2), -3), ((2, 1), 3), ((3, 0), -1)))
        self.same(implicit((poly(1, 0, 1), poly(0, 0, 2))),
                  (((0, 0), 4), ((0, 1), 4), ((0, 2), 1), ((1, 0), -8), ((1, 1), -4), ((2, 0), 4)))

    def test_form(self):
        for curve in curves():
            terms = implicit(curve)
            self.assertEqual(type(terms), tuple)
            self.assertEqual(list(terms), sorted(terms))
            self.assertEqual(len({power for power, _ in terms}), len(terms))
            for (i, j), number in terms:
                self.assertEqual([type(i), type(j), type(number)], [int] * 3)
                self.assertNotEqual(number, 0)
                self.assertTrue(0 <= i < len(curve[1]) and 0 <= j < len(curve[0]))
            self.assertEqual(gcd(*[number for _, number in terms]), 1)
            self.assertGreater(terms[0][1], 0)

    def test_0_on_the_curve(self):
        source = Source(263)
        for curve in curves():
            terms = implicit(curve)
            for t in source.many(8):
                self.assertEqual(value(terms, value_of(curve[0], t), value_of(curve[1], t)), 0)

    def test_proportions_of_the_resultant(self):
        source = Source(264)
        for curve in curves():
            terms = implicit(curve)
            factors = set()
            for _ in range(8):
                x, y = source.many(2)
                due = number_of(resultant(less(curve[0], x), less(curve[1], y)))
                found = value(terms, x, y)
                self.assertEqual(found == 0, due == 0)
                if due != 0:
                    factors.add(found / due)
            self.assertEqual(len(factors), 1)

    def test_points_at_t_that_are_no_real_numbers(self):
        # At the square root of -1: x is -1 - 2, y is 5 - 1 times the same.
        curve = (poly(-2, 0, 1), poly(5, 4, 0, 4))
        terms = implicit(curve)
        self.assertEqual(value(terms, -3, 5), 0)
        self.assertNotEqual(value(terms, -3, 6), 0)


class Crossings(Case):
    def test_ordinary(self):
        self.same(crossings(CUSP, ratios(1, 0, -1), ratios(-2, 2)), 2)
        self.same(crossings(CUSP, ratios(0, 1, -1), ratios(-2, 2)), 1)
        self.same(crossings(CUSP, ratios(1, 0, 1), ratios(-2, 2)), 0)
        self.same(crossings(CUSP, ratios(1, -1, 0), ratios(-2, 2)), 2)

    def test_ends(self):
        line = ratios(1, 0, -1)
        for interval, due in [((-1, 1), 1), ((-1, "1/2"), 0), ((-2, -1), 1), ((0, 1), 1), ((1, 2), 0),
                              (("-11/10", 1), 2), ((0, "99/100"), 0), ((-9, -2), 0)]:
            self.same(crossings(CUSP, line, ratios(*interval)), due)

    def test_all(self):
        curve = (poly(1, 2, 0, "1/2"), poly(-1, 4, 0, 1))
        self.assertIsNone(crossings(curve, ratios(2, -1, -3), WIDE))
        self.assertIsNone(crossings(curve, ratios("-2/3", "1/3", 1), ratios(0, 1)))
        # Beside it there is none.
        self.same(crossings(curve, ratios(2, -1, -4), WIDE), 0)

    def test_many(self):
        source = Source(265)
        for _ in range(60):
            roots = [Fraction(source.random.randint(-4, 4), 2)
                     for _ in range(source.random.randint(1, 3))]
            a, b, c = source.number() or Fraction(1), source.number(), source.number()
            y = source.poly(source.random.randint(1, 2))
            # x is such that a * x + b * y + c has these roots.
            wanted = product(with_roots(*roots), poly(*source.random.choices([2, -3], k=1)))
            numbers = [number_of(item) for item in wanted] + [0] * 3
            others = [number_of(item) for item in y] + [0] * 4
            x = poly(*[(one - b * other - (c if at == 0 else 0)) / a
                       for at, (one, other) in enumerate(zip(numbers, others))])
            if 2 <= len(x) <= 4:
                low = Fraction(source.random.randint(-5, 4), 2)
                high = low + Fraction(source.random.randint(1, 8), 2)
                due = len({root for root in roots if low < root <= high})
                self.same(crossings((x, y), ratios(a, b, c), ratios(low, high)), due)

    def test_roots_that_are_no_ratios(self):
        curve = (poly(-2, 0, 1), poly(0, 1))
        self.same(crossings(curve, ratios(1, 0, 0), ratios(-2, 2)), 2)
        self.same(crossings(curve, ratios(1, 0, 0), ratios(0, 2)), 1)
        self.same(crossings(curve, ratios(1, 0, 0), ratios("7/5", "71/50")), 1)
        self.same(crossings(curve, ratios(1, 0, 0), ratios("71/50", 2)), 0)


class Wrong(Case):
    def test_curves(self):
        for value_, (name, fields) in wrong_curve():
            self.fails(name, implicit, value_, **fields)
            self.fails(name, curve_point, value_, (1, 2), **fields)
            self.fails(name, curve_point, value_, None, **fields)
            self.fails(name, crossings, value_, ratios(1, 1, 1), WIDE, **fields)
            self.fails(name, crossings, value_, None, None, **fields)

    def test_degrees(self):
        for high in range(-1, 13):
            for wide in range(-1, 13):
                curve = (poly(*[1] * (high + 1)), poly(*[1] * (wide + 1)))
                if not 1 <= high <= 3:
                    self.fails("BadCurve", curve_point, curve, (1, 2), index=0)
                elif not 1 <= wide <= 3:
                    self.fails("BadCurve", curve_point, curve, (1, 2), index=1)
                else:
                    self.same(curve_point(curve, (1, 1)), ratios(high + 1, wide + 1))

    def test_others(self):
        for line, (name, fields) in wrong_line():
            self.fails(name, crossings, CUSP, line, WIDE, **fields)
            self.fails(name, crossings, CUSP, line, None, **fields)
        for interval, (name, fields) in WRONG_INTERVAL:
            self.fails(name, crossings, CUSP, ratios(1, 1, 1), interval, **fields)
            # The interval is asked for also where the line meets the curve everywhere.
            self.fails(name, crossings, (poly(0, 1), poly(0, 1)), ratios(1, -1, 0), interval, **fields)
        for t, (name, fields) in WRONG_RATIO:
            self.fails(name, curve_point, CUSP, t, **fields)


if __name__ == "__main__":
    unittest.main()

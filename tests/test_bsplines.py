"""Point 14: splines, their values, pieces and integrals."""

import unittest
from fractions import Fraction

from blendcurves.bsplines import spline_integral, spline_pieces, spline_value
from tests.helper import HUGE, NOT_RATIOS, Case, Source, breaks_of, integrated, numbers_of
from tests.helper import parts_of, poly, ratio_of, ratios, spline_at, within
from tests.helper import wrong_spline

TENT = (1, ratios(0, 0, 1, 2, 2), ratios(0, 1, 0))
STEPS = (0, ratios(0, 1, "5/2"), ratios(7, -3))
# At 1 the value jumps from 2 to 5.
TORN = (2, ratios(0, 0, 0, 1, 1, 1, 3, 3, 3), ratios(0, 1, 2, 5, 0, 1))
FULL = [
    (0, ratios(*range(16)), ratios(*range(15))),
    (1, ratios(0, *range(14), 13), ratios(*range(14))),
    (4, ratios(*[0] * 5, 1, 1, 2, 3, 3, 3, *[4] * 5), ratios(*range(11))),
]


def splines():
    source = Source(141)
    found = [TENT, STEPS, TORN] + FULL
    for degree in range(5):
        for inner in (0, 1, 2, 3, 5):
            found.append(source.spline(degree, inner))
    return found


class Value(Case):
    def test_ordinary(self):
        for x, due in [(0, 0), ("1/2", "1/2"), (1, 1), ("3/2", "1/2"), (2, 0)]:
            self.same(spline_value(TENT, ratio_of(x)), ratio_of(due))
        curve = (2, ratios(0, 0, 0, 2, 2, 2), ratios(1, 0, 3))
        for x, due in [(0, 1), (1, 1), (2, 3), ("1/2", "3/4")]:
            self.same(spline_value(curve, ratio_of(x)), ratio_of(due))

    def test_degree_0(self):
        for x, due in [(0, 7), ("1/2", 7), ("99/100", 7), (1, -3), (2, -3), ("5/2", -3)]:
            self.same(spline_value(STEPS, ratio_of(x)), ratio_of(due))
        self.same(spline_value((0, ratios(0, 1), ratios(5)), (1, 1)), (5, 1))

    def test_jump(self):
        for x, due in [("1/2", 1), ("999/1000", "999/500"), (1, 5), (2, "3/2"), (3, 1)]:
            self.same(spline_value(TORN, ratio_of(x)), ratio_of(due))

    def test_ends(self):
        for degree, knots, row in splines():
            self.same(spline_value((degree, knots, row), knots[0]), row[0])
            self.same(spline_value((degree, knots, row), knots[-1]), row[-1])

    def test_many(self):
        for spline in splines():
            breaks = breaks_of(spline)
            places = breaks + [x for ends in zip(breaks, breaks[1:]) for x in within(*ends, 6)]
            for x in places:
                self.same(spline_value(spline, ratio_of(x)), ratio_of(spline_at(spline, x)))

    def test_places(self):
        for x in list(NOT_RATIOS) + [(-1, 1), (-1, HUGE), (3, 1), (HUGE, 1), (-HUGE, 1)]:
            self.fails("BadPlace", spline_value, TENT, x)
            self.fails("BadPlace", spline_value, STEPS, x)
        self.fails("BadPlace", spline_value, TENT, (2 * HUGE + 1, HUGE))
        self.fails("BadPlace", spline_value, (0, ratios(0, 1), ratios(5)), (3, 1))
        for spline in splines():
            low, high = breaks_of(spline)[0], breaks_of(spline)[-1]
            for x in (low - Fraction(1, 99), high + Fraction(1, 99)):
                self.fails("BadPlace", spline_value, spline, ratio_of(x))


class Pieces(Case):
    def test_ordinary(self):
        due = ((ratios(0, 1), poly(0, 1)), (ratios(1, 2), poly(2, -1)))
        self.same(spline_pieces(TENT), due)
        self.same(spline_pieces(STEPS), ((ratios(0, 1), poly(7)), (ratios(1, "5/2"), poly(-3))))
        due = ((ratios(0, 1), poly(0, 2)), (ratios(1, 3), poly("23/2", -8, "3/2")))
        self.same(spline_pieces(TORN), due)

    def test_zero(self):
        self.same(spline_pieces((1, TENT[1], ratios(0, 0, 0))),
                  ((ratios(0, 1), ()), (ratios(1, 2), ())))
        self.same(spline_pieces((2, ratios(0, 0, 0, 1, 1, 1), ratios(1, 1, 1))),
                  ((ratios(0, 1), poly(1)),))

    def test_many(self):
        for spline in splines():
            due = tuple((ratios(*ends), poly(*numbers)) for ends, numbers in parts_of(spline))
            self.same(spline_pieces(spline), due)


class Integral(Case):
    def test_ordinary(self):
        self.same(spline_integral(TENT), (1, 1))
        self.same(spline_integral(STEPS), (5, 2))
        self.same(spline_integral((2, ratios(0, 0, 0, 2, 2, 2), ratios(1, 0, 3))), (8, 3))

    def test_many(self):
        for spline in splines():
            due = sum(integrated(numbers, *ends) for ends, numbers in parts_of(spline))
            self.same(spline_integral(spline), ratio_of(due))


class Splines(Case):
    def test_right(self):
        for spline in splines():
            self.assertEqual(len(spline_pieces(spline)), len(breaks_of(spline)) - 1)

    def test_wrong(self):
        for spline in (TENT, TORN, FULL[1], FULL[2]):
            for value, (name, fields) in wrong_spline(spline):
                for function in (spline_pieces, spline_integral):
                    self.fails(name, function, value, **fields)
                self.fails(name, spline_value, value, None, **fields)

    def test_degree_0(self):
        one, two = ratios(0, 1), ratios(0, 1, 2)
        for knots in [(), ratios(0), ratios(0, 0), ratios(1, 0), ratios(0, 0, 1), ratios(0, 1, 1),
                      ratios(0, 1, 1, 2), ratios(*range(17)), None, [(0, 1), (1, 1)], ((0, 1), 1)]:
            self.fails("BadSpline", spline_pieces, (0, knots, one), index=1)
        for row in [(), one, two, None, [(1, 1)], ((2, 2),), ((True, 1),)]:
            self.fails("BadSpline", spline_pieces, (0, one, row), index=2)
        self.assertEqual(len(spline_pieces((0, two, one))), 2)

    def test_how_many_knots(self):
        for degree in range(5):
            inner = 16 - 2 * (degree + 1)
            for many in (0, 1, inner, inner + 1):
                knots = ratios(*[0] * (degree + 1), *range(1, many + 1), *[99] * (degree + 1))
                row = ratios(*range(len(knots) - degree - 1))
                if many <= inner:
                    self.assertEqual(len(spline_pieces((degree, knots, row))), many + 1)
                else:
                    self.fails("BadSpline", spline_pieces, (degree, knots, row), index=1)

    def test_how_often_knots_stand(self):
        for degree in range(5):
            for times in (degree, degree + 1, degree + 2):
                knots = ratios(*[0] * (degree + 1), *[1] * times, *[2] * (degree + 1))
                row = ratios(*range(len(knots) - degree - 1))
                if times <= degree + 1:
                    self.assertEqual(numbers_of(spline_pieces((degree, knots, row))[-1][0])[1], 2)
                else:
                    self.fails("BadSpline", spline_pieces, (degree, knots, row), index=1)


if __name__ == "__main__":
    unittest.main()

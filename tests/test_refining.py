"""Point 15: inserted, refined, smoothness, removed."""

import unittest
from fractions import Fraction

from blendcurves.bsplines import spline_pieces
from blendcurves.refining import inserted, refined, removed, smoothness
from tests.helper import HUGE, NOT_RATIOS, Case, Source, breaks_of, number_of, numbers_of
from tests.helper import order_at, ratio_of, ratios, spline_at, wrong_knots, wrong_spline

CURVE = (2, ratios(0, 0, 0, 1, 1, 1), ratios(0, 1, 0))
TENT = (1, ratios(0, 0, 1, 2, 2), ratios(0, 1, 0))
TORN = (2, ratios(0, 0, 0, 1, 1, 1, 3, 3, 3), ratios(0, 1, 2, 5, 0, 1))
FULL = (3, ratios(0, 0, 0, 0, *range(1, 9), 9, 9, 9, 9), ratios(*range(12)))
# Not places between both ends.
OUTSIDE = list(NOT_RATIOS) + [(0, 1), (2, 1), (-1, 1), (5, 2), (HUGE, 1), (-1, HUGE), (9, 1)]


def splines():
    source = Source(151)
    return [CURVE, TENT, TORN] + [
        source.spline(degree, inner) for degree in range(5) for inner in (0, 1, 2, 4)
    ]


def sorted_knots(numbers):
    return ratios(*sorted(numbers))


def with_knot(knots, x):
    return sorted_knots(numbers_of(knots) + [x])


class Inserted(Case):
    def test_ordinary(self):
        self.same(inserted(CURVE, (1, 2)),
                  (2, ratios(0, 0, 0, "1/2", 1, 1, 1), ratios(0, "1/2", "1/2", 0)))
        self.same(inserted(TENT, (1, 1)), (1, ratios(0, 0, 1, 1, 2, 2), ratios(0, 1, 1, 0)))
        self.same(inserted(TENT, (3, 2)), (1, ratios(0, 0, 1, "3/2", 2, 2), ratios(0, 1, "1/2", 0)))
        self.same(inserted((0, ratios(0, 2), ratios(5)), (1, 3)),
                  (0, ratios(0, "1/3", 2), ratios(5, 5)))

    def test_values(self):
        for spline in splines():
            degree, knots, _ = spline
            breaks = breaks_of(spline)
            for x in breaks[1:-1] + [(2 * one + after) / 3 for one, after in zip(breaks, breaks[1:])]:
                if numbers_of(knots).count(x) <= degree and len(knots) < 16:
                    found = inserted(spline, ratio_of(x))
                    self.is_spline(found)
                    self.same(found[:2], (degree, with_knot(knots, x)))
                    self.has_values(found, lambda place: spline_at(spline, place), spline)

    def test_up_to_full(self):
        for degree in range(5):
            spline = (degree, ratios(*[0] * (degree + 1), *[2] * (degree + 1)),
                      ratios(*range(degree + 1)))
            more = spline
            for _ in range(degree + 1):
                more = inserted(more, (1, 1))
            self.same(more[1], ratios(*[0] * (degree + 1), *[1] * (degree + 1), *[2] * (degree + 1)))
            self.has_values(more, lambda place: spline_at(spline, place), spline)
            self.fails("TooFull", inserted, more, (1, 1))
        self.fails("TooFull", inserted, TORN, (1, 1))

    def test_too_many(self):
        self.fails("TooMany", inserted, FULL, (1, 1), most=16)
        self.fails("TooMany", inserted, FULL, (1, 2), most=16)
        fewer = (3, FULL[1][:4] + FULL[1][5:], FULL[2][1:])
        self.assertEqual(len(inserted(fewer, (1, 2))[1]), 16)
        self.fails("TooMany", inserted, inserted(fewer, (1, 2)), (1, 2), most=16)

    def test_too_full_comes_first(self):
        knots = ratios(0, *range(1, 15), 15)
        spline = (0, knots, ratios(*range(15)))
        for x in range(1, 15):
            self.fails("TooFull", inserted, spline, ratio_of(x))
        self.fails("TooMany", inserted, spline, (1, 2), most=16)

    def test_places(self):
        for x in OUTSIDE:
            self.fails("BadPlace", inserted, TENT, x)
        # The places are wrong although a knot that stands there is full, and 17 are too many.
        for spline in (TORN, FULL, (0, ratios(*range(16)), ratios(*range(15)))):
            for x in (spline[1][0], spline[1][-1], None, (HUGE, 1)):
                self.fails("BadPlace", inserted, spline, x)


class Refined(Case):
    def test_ordinary(self):
        knots = ratios(0, 0, 0, "1/2", "1/2", 1, 1, 1)
        self.same(refined(CURVE, knots), (2, knots, ratios(0, "1/2", "1/2", "1/2", 0)))
        self.same(refined(CURVE, CURVE[1]), CURVE)
        knots = ratios(0, 0, "1/4", 1, 1, 2, 2)
        self.same(refined(TENT, knots), (1, knots, ratios(0, "1/4", 1, 1, 0)))

    def test_values(self):
        source = Source(152)
        for spline in splines():
            degree, knots, _ = spline
            breaks = breaks_of(spline)
            for _ in range(3):
                more = numbers_of(knots)
                for _ in range(source.random.randint(0, 16 - len(knots))):
                    part = Fraction(source.random.randint(1, 7), 8)
                    x = source.random.choice([breaks[0] + part * (breaks[-1] - breaks[0])] + breaks)
                    if more.count(x) <= degree:
                        more.append(x)
                found = refined(spline, sorted_knots(more))
                self.is_spline(found)
                self.same(found[:2], (degree, sorted_knots(more)))
                self.has_values(found, lambda place: spline_at(spline, place), spline)

    def test_inserting_step_by_step(self):
        found = CURVE
        for x in ("1/3", "1/2", "1/2", "3/4"):
            found = inserted(found, ratio_of(x))
        self.same(refined(CURVE, found[1]), found)

    def test_other_knots(self):
        for knots in [
            ratios(0, 0, 2, 2), ratios(0, 0, "1/2", 2, 2), ratios(0, 0, 1, 2), ratios(0, 1, 2, 2),
            ratios(0, 0, 1, 2, 2, 3), ratios(-1, 0, 0, 1, 2, 2), ratios(-1, -1, 0, 0, 1, 2, 2),
            ratios(0, 0, 1, 2, 2, 3, 3), ratios(0, 0, 1, 3, 3), ratios(0, 1, 2), ratios(5, 5, 6, 6),
            ratios(-1, 0, 0, 1, 2, 2, 3), ratios(-1, -1, 1, 2, 2),
        ]:
            self.fails("BadKnots", refined, TENT, knots, index=None)
        twice = (1, ratios(0, 0, 1, 1, 2, 2), ratios(0, 1, 2, 3))
        self.fails("BadKnots", refined, twice, TENT[1], index=None)
        self.fails("BadKnots", refined, twice, ratios(0, 0, "1/2", 1, 2, 2), index=None)
        self.fails("BadKnots", refined, FULL, FULL[1][:1] + FULL[1], index=None)

    def test_wrong_knots(self):
        for knots, (name, fields) in wrong_knots(2):
            self.fails(name, refined, CURVE, knots, **fields)
        # Of a wrong item the index is told, also where a knot of the spline is left out.
        self.fails("BadKnots", refined, TENT, ratios(0, 0, 3, 2), index=3)
        self.fails("BadKnots", refined, TENT, ratios(0, 0, 1, 1, 1, 2, 2), index=4)
        self.fails("BadKnots", refined, TENT, ratios(0, 0, 0, 1, 2, 2), index=2)
        self.fails("BadKnots", refined, TENT, ratios(0, 0, 1, 2, 2, 2), index=5)


class Smoothness(Case):
    def test_ordinary(self):
        self.same(smoothness(TENT, (1, 1)), 0)
        self.same(smoothness(TENT, (1, 2)), 1)
        self.same(smoothness(TORN, (1, 1)), -1)
        self.same(smoothness(TORN, (2, 1)), 2)
        self.same(smoothness(inserted(CURVE, (1, 2)), (1, 2)), 2)
        self.same(smoothness((0, ratios(0, 1, 2), ratios(3, 3)), (1, 1)), 0)
        self.same(smoothness((0, ratios(0, 1, 2), ratios(3, 4)), (1, 1)), -1)

    def test_each_order(self):
        # The basis function that begins at 1 joins 0 there as smoothly as its knots let it.
        for degree in range(5):
            for order in range(-1, degree):
                knots = ratios(*[0] * (degree + 1), *[1] * (degree - order), *[3] * (degree + 1))
                row = [0] * (2 * degree + 1 - order)
                self.same(smoothness((degree, knots, ratios(*row)), (1, 1)), degree)
                row[degree + 1] = 7
                self.same(smoothness((degree, knots, ratios(*row)), (1, 1)), order)
                self.same(order_at((degree, knots, ratios(*row)), 1), order)

    def test_many(self):
        source = Source(153)
        found = set()
        for _ in range(60):
            degree = source.random.randint(0, 4)
            spline = source.spline(degree, 2)
            row = [number * source.random.randint(0, 1) for number in numbers_of(spline[2])]
            spline = (degree, spline[1], ratios(*row))
            for x in breaks_of(spline)[1:-1]:
                due = order_at(spline, x)
                found.add(due)
                self.same(smoothness(spline, ratio_of(x)), due)
        self.assertGreaterEqual(found, {-1, 0, 1, 2, 3})

    def test_places(self):
        for x in OUTSIDE:
            self.fails("BadPlace", smoothness, TENT, x)


class Removed(Case):
    def test_ordinary(self):
        self.same(removed(inserted(CURVE, (1, 2)), (1, 2)), CURVE)
        self.assertIsNone(removed(TENT, (1, 1)))
        self.assertIsNone(removed(TORN, (1, 1)))
        self.same(removed((1, ratios(0, 0, 1, 2, 2), ratios(0, 2, 4)), (1, 1)),
                  (1, ratios(0, 0, 2, 2), ratios(0, 4)))
        self.same(removed((0, ratios(0, 1, 2), ratios(3, 3)), (1, 1)), (0, ratios(0, 2), ratios(3)))
        self.assertIsNone(removed((0, ratios(0, 1, 2), ratios(3, 4)), (1, 1)))

    def test_undoes_inserted(self):
        for spline in splines():
            breaks = breaks_of(spline)
            for x in breaks[1:-1] + [(one + after) / 2 for one, after in zip(breaks, breaks[1:])]:
                often = numbers_of(spline[1]).count(x)
                if often <= spline[0] and len(spline[1]) < 16:
                    more = inserted(spline, ratio_of(x))
                    self.same(removed(more, ratio_of(x)), spline)

    def test_exactly_if_smooth(self):
        source = Source(154)
        found = {True: 0, False: 0}
        for _ in range(80):
            degree = source.random.randint(0, 4)
            spline = source.spline(degree, 2, 13)
            row = [number * source.random.randint(0, 1) for number in numbers_of(spline[2])]
            spline = (degree, spline[1], ratios(*row))
            for x in breaks_of(spline)[1:-1]:
                often = numbers_of(spline[1]).count(x)
                rough = order_at(spline, x) <= degree - often
                less = removed(spline, ratio_of(x))
                self.assertEqual(less is None, rough)
                found[rough] += 1
                if less is not None:
                    self.is_spline(less)
                    self.same(with_knot(less[1], x), spline[1])
                    self.has_values(spline, lambda place: spline_at(less, place), less)
        self.assertGreater(min(found.values()), 10)

    def test_places(self):
        for x in OUTSIDE + [(1, 2), (3, 2), (1, HUGE)]:
            self.fails("BadPlace", removed, TENT, x)
        self.fails("BadPlace", removed, CURVE, (1, 2))


class Wrong(Case):
    def test_splines(self):
        for spline in (CURVE, TORN, FULL):
            for value, (name, fields) in wrong_spline(spline):
                for function in (inserted, refined, smoothness, removed):
                    self.fails(name, function, value, (1, 1), **fields)

    def test_pieces_stay(self):
        for spline in splines():
            middle = ratio_of((number_of(spline[1][0]) + number_of(spline[1][-1])) / 2)
            if len(spline[1]) < 16 and middle not in spline[1]:
                found = spline_pieces(inserted(spline, middle))
                self.assertEqual({poly for _, poly in found},
                                 {poly for _, poly in spline_pieces(spline)})


if __name__ == "__main__":
    unittest.main()

"""Point 5: degrees and blossoms."""

import unittest
from fractions import Fraction
from itertools import combinations, permutations
from math import comb, prod

from blendcurves.blossoms import blossom
from tests.helper import HUGE, Case, Source, number_of, numbers_of, poly, ratio_of, ratios
from tests.helper import value_of


def due(one, places):
    """The sum of the coefficients times the means of the products of as many places."""
    numbers, total = numbers_of(places), Fraction(0)
    for power, item in enumerate(one):
        products = [prod(chosen, start=Fraction(1)) for chosen in combinations(numbers, power)]
        total += number_of(item) * sum(products) / comb(len(places), power)
    return ratio_of(total)


class Blossom(Case):
    def test_ordinary(self):
        self.same(blossom(poly(0, 0, 1), 2, ratios(1, 3)), (3, 1))
        self.same(blossom(poly(0, 1), 2, ratios(1, 2)), (3, 2))
        self.same(blossom(poly(0, 0, 0, 1), 3, ratios(2, 3, 5)), (30, 1))
        self.same(blossom(poly(0, 0, 1), 3, ratios(1, 2, 3)), (11, 3))
        self.same(blossom(poly(0, 0, 1), 3, ratios(HUGE, 0, 0)), (0, 1))

    def test_degree_0(self):
        self.same(blossom((), 0, ()), (0, 1))
        self.same(blossom(poly("-2/3"), 0, ()), (-2, 3))

    def test_constants_and_zero(self):
        for degree in range(9):
            places = ratios(*range(degree))
            self.same(blossom((), degree, places), (0, 1))
            self.same(blossom(poly("7/2"), degree, places), (7, 2))

    def test_equal_places(self):
        source = Source(51)
        for degree in range(9):
            for lower in range(-1, degree + 1):
                one, x = source.poly(lower), source.number()
                found = blossom(one, degree, (ratio_of(x),) * degree)
                self.same(found, ratio_of(value_of(one, x)))

    def test_many(self):
        source = Source(52)
        for degree in range(9):
            for lower in range(-1, degree + 1):
                one, places = source.poly(lower), ratios(*source.many(degree))
                self.same(blossom(one, degree, places), due(one, places))

    def test_exchange(self):
        one, places = poly(1, 2, 0, -5), ratios(-1, "1/2", 3, 3)
        for order in permutations(places):
            self.same(blossom(one, 4, order), due(one, places))

    def test_each_place_alone(self):
        source = Source(53)
        for degree in range(1, 9):
            one, places = source.poly(degree), ratios(*source.many(degree))
            for at in range(degree):
                ends = [
                    number_of(blossom(one, degree, places[:at] + (end,) + places[at + 1:]))
                    for end in ratios(0, 1, "-7/3")
                ]
                self.assertEqual(ends[2], ends[0] - Fraction(7, 3) * (ends[1] - ends[0]))

    def test_degree_8(self):
        one = poly(0, 0, 0, 0, 0, 0, 0, 0, 1)
        self.same(blossom(one, 8, ratios(*range(1, 9))), (40320, 1))

    def test_degree_of_the_polynomial(self):
        self.same(blossom(poly(0, 1), 1, ratios(4)), (4, 1))
        self.fails("BadDegree", blossom, poly(0, 1), 0, ())
        self.fails("BadDegree", blossom, poly(*[0] * 8, 1), 7, ratios(*range(7)))
        for degree in range(9, 13):
            self.fails("BadDegree", blossom, poly(*[0] * 9, 1), degree, ratios(*range(degree)))
        self.fails("BadDegree", blossom, poly(*[0] * 9, 1), 8, ratios(*range(8)))
        self.fails("BadDegree", blossom, poly(0, 1), 0, None)
        self.fails("BadDegree", blossom, (), -1, ())
        self.fails("BadPlaces", blossom, poly(0, 1), 1, ())
        self.fails("BadPlaces", blossom, poly(1), 0, ratios(1))


if __name__ == "__main__":
    unittest.main()

"""Points 19 and 21: table_at, can_fit, fitted, nearest_row, approximant."""

import unittest
from fractions import Fraction

from blendcurves.fitting import approximant, can_fit, fitted, nearest_row, table_at
from blendcurves.knots import coefficients, greville
from tests.helper import NOT_TUPLES, Case, Source, basis, breaks_of, number_of, numbers_of, poly
from tests.helper import rank_of, ratio_of, ratios, value_of, wrong_integer, wrong_knots
from tests.helper import wrong_rising, wrong_tuple

HATS = ratios(0, 0, 1, 2, 2)
# Knots of a degree, some of which stand often, some only once at the ends.
KNOTS = [
    (0, ratios(0, 4)), (0, ratios(0, 1, 2, 5)), (1, HATS), (1, ratios(0, 1, 1, 2)),
    (1, ratios(0, 1, 2, 3)), (2, ratios(0, 0, 0, 1, 1, 1)), (2, ratios(0, 0, 0, 1, 1, 1, 2, 2, 2)),
    (2, ratios(0, 1, 2, 3, 5)), (3, ratios(0, 0, 0, 0, 1, "3/2", "3/2", 3, 3, 3, 3)),
    (3, ratios(0, 1, 2, 3, 4)), (4, ratios(0, 0, 0, 0, 0, 1, 2, 2, 2, 2, 2)),
    (4, ratios(-1, -1, 0, 0, 0, 0, 0, 3)), (1, ratios(0, 0, 1, 1, 2, 2)),
]


def count(degree, knots):
    return len(knots) - degree - 1


def table(degree, knots, places):
    """The table with Fractions."""
    numbers = numbers_of(knots)
    return [[basis(degree, numbers, i, x) for i in range(count(degree, knots))] for x in places]


def some_places(source, knots, many):
    """So many rising Fractions, knots among them."""
    numbers = sorted(set(numbers_of(knots)))
    low, high = numbers[0], numbers[-1]
    found = set()
    while len(found) < many:
        part = Fraction(source.random.randint(-1, 25), 24)
        found.add(source.random.choice(numbers + [low + part * (high - low)] * 3))
    return sorted(found)


class Table(Case):
    def test_ordinary(self):
        due = (ratios(1, 0, 0), ratios("1/2", "1/2", 0), ratios(0, 1, 0))
        self.same(table_at(1, HATS, ratios(0, "1/2", 1)), due)
        # At the last knot, as beyond the ends, all basis functions are 0.
        self.same(table_at(1, HATS, ratios(-1, 2, 3)), (ratios(0, 0, 0),) * 3)
        self.same(table_at(0, ratios(0, 4), ratios(1, 2)), (ratios(1), ratios(1)))

    def test_many(self):
        source = Source(191)
        for degree, knots in KNOTS:
            least = count(degree, knots)
            for many in (least, least + 1, 12):
                places = some_places(source, knots, many)
                due = tuple(ratios(*row) for row in table(degree, knots, places))
                self.same(table_at(degree, knots, ratios(*places)), due)

    def test_how_many_places(self):
        for degree, knots in KNOTS:
            least = count(degree, knots)
            for many in range(15):
                if least <= many <= 12:
                    found = table_at(degree, knots, ratios(*range(many)))
                    self.assertEqual([len(found), len(found[0])], [many, least])
                else:
                    self.fails("BadPlaces", table_at, degree, knots, ratios(*range(many)))

    def test_more_functions_than_12(self):
        for degree, most in [(0, 15), (1, 14), (2, 13), (3, 12), (4, 11)]:
            knots = ratios(*range(16))
            for many in range(10, 18):
                if most <= many <= max(most, 12):
                    self.assertEqual(len(table_at(degree, knots, ratios(*range(many)))), many)
                else:
                    self.fails("BadPlaces", table_at, degree, knots, ratios(*range(many)))


class Fit(Case):
    def test_ordinary(self):
        self.same(can_fit(1, HATS, ratios(0, "1/2", 1)), False)
        self.same(can_fit(1, HATS, ratios(0, 1, "3/2")), True)
        self.same(can_fit(1, HATS, ratios(0, 1, 2)), False)
        self.same(can_fit(1, ratios(0, 1, 2), ratios(1)), True)
        self.same(can_fit(1, ratios(0, 1, 2), ratios(0)), False)
        self.same(fitted(1, HATS, ratios(0, 1, "3/2"), ratios(1, 2, 3)), ratios(1, 2, 4))
        self.assertIsNone(fitted(1, HATS, ratios(0, 1, 2), ratios(0, 0, 0)))
        self.assertIsNone(fitted(1, HATS, ratios(0, "1/2", 1), ratios(1, 1, 1)))

    def test_exactly_if_the_rows_are_free(self):
        source = Source(192)
        found = {True: 0, False: 0}
        for degree, knots in KNOTS:
            many = count(degree, knots)
            for _ in range(25):
                places = some_places(source, knots, many)
                due = rank_of(table(degree, knots, places)) == many
                self.same(can_fit(degree, knots, ratios(*places)), due)
                found[due] += 1
        self.assertGreater(min(found.values()), 50)

    def test_data(self):
        source = Source(193)
        for degree, knots in KNOTS:
            many = count(degree, knots)
            for _ in range(12):
                places, data = some_places(source, knots, many), source.many(many)
                rows = table(degree, knots, places)
                row = fitted(degree, knots, ratios(*places), ratios(*data))
                if rank_of(rows) < many:
                    self.assertIsNone(row)
                else:
                    self.assertEqual([type(row), len(row)], [tuple, many])
                    sums = [sum(one * other for one, other in zip(line, numbers_of(row)))
                            for line in rows]
                    self.assertEqual(sums, data)

    def test_polynomials_are_made_anew(self):
        source = Source(194)
        for degree in range(1, 5):
            for inner in (0, 1, 2):
                spline = source.spline(degree, inner)
                knots, one = spline[1], source.poly(degree)
                low, high = breaks_of(spline)[0], breaks_of(spline)[-1]
                places = [x - Fraction(int(x == high), 97) for x in numbers_of(greville(degree, knots))]
                if len(set(places)) == len(places) and places == sorted(places):
                    data = ratios(*[value_of(one, x) for x in places])
                    found = fitted(degree, knots, ratios(*places), data)
                    self.same(found, coefficients(one, degree, knots))

    def test_as_many_places_as_functions(self):
        for degree, knots in KNOTS:
            for many in range(15):
                if many != count(degree, knots):
                    places = ratios(*range(many))
                    self.fails("BadPlaces", can_fit, degree, knots, places)
                    self.fails("BadPlaces", fitted, degree, knots, places, None)

    def test_15_places(self):
        knots, places = ratios(*range(16)), ratios(*range(15))
        self.same(can_fit(0, knots, places), True)
        self.same(fitted(0, knots, places, ratios(*range(5, 20))), ratios(*range(5, 20)))


class Nearest(Case):
    def test_ordinary(self):
        self.same(nearest_row(0, ratios(0, 4), ratios(1, 2), ratios(1, 4)), ratios("5/2"))
        self.same(nearest_row(0, ratios(0, 2, 4), ratios(0, 1, 2), ratios(1, 4, 7)),
                  ratios("5/2", 7))
        self.same(nearest_row(1, ratios(0, 0, 4, 4), ratios(0, 1, 2), ratios(0, 0, 3)),
                  ratios("-1/2", "11/2"))

    def test_as_many_places_as_functions(self):
        self.same(nearest_row(1, HATS, ratios(0, 1, "3/2"), ratios(1, 2, 3)), ratios(1, 2, 4))

    def test_columns_that_are_not_free(self):
        self.assertIsNone(nearest_row(1, HATS, ratios(0, 1, 2), ratios(1, 2, 3)))
        self.assertIsNone(nearest_row(0, ratios(0, 2, 4), ratios(0, 1), ratios(1, 4)))
        self.assertIsNone(nearest_row(0, ratios(0, 4), ratios(-1, 4, 5), ratios(0, 0, 0)))
        self.assertIsNone(nearest_row(2, ratios(0, 0, 0, 1, 1, 1), ratios(-2, -1, 0, "1/2", 1, 2),
                                      ratios(0, 0, 0, 0, 0, 0)))

    def test_least_squares(self):
        source = Source(211)
        found = {True: 0, False: 0}
        for degree, knots in KNOTS:
            least = count(degree, knots)
            for many in (least, least + 1, 12, 12):
                places, data = some_places(source, knots, many), source.many(many)
                rows = table(degree, knots, places)
                row = nearest_row(degree, knots, ratios(*places), ratios(*data))
                free = rank_of(list(zip(*rows))) == least
                found[free] += 1
                self.assertEqual(row is None, not free)
                if free:
                    self.assertEqual([type(row), len(row)], [tuple, least])
                    self.check_least(rows, numbers_of(row), data)
        self.assertGreater(min(found.values()), 5)

    def check_least(self, rows, row, data):
        def squares(numbers):
            sums = [sum(one * other for one, other in zip(line, numbers)) for line in rows]
            return sum((one - other) ** 2 for one, other in zip(sums, data))

        best = squares(row)
        for at in range(len(row)):
            for step in (Fraction(1, 1000), Fraction(-1, 1000), Fraction(2)):
                self.assertGreater(squares(row[:at] + [row[at] + step] + row[at + 1:]), best)

    def test_exact_data(self):
        row = ratios(3, -1, "1/2", 4)
        knots = ratios(0, 0, 0, 1, 3, 3, 3)
        places = ratios(*[Fraction(at, 4) for at in range(12)])
        sums = [sum(a * b for a, b in zip(line, numbers_of(row)))
                for line in table(2, knots, numbers_of(places))]
        self.same(nearest_row(2, knots, places, ratios(*sums)), row)


class Approximant(Case):
    def test_ordinary(self):
        self.same(approximant(poly(0, 0, 1), 2, ratios(0, 0, 0, 1, 1, 1)), ratios(0, "1/4", 1))
        self.same(approximant(poly(0, 1), 1, HATS), ratios(0, 1, 2))
        self.same(approximant((), 1, HATS), ratios(0, 0, 0))

    def test_many(self):
        source = Source(212)
        for degree, knots in KNOTS:
            if degree > 0:
                for higher in (-1, 0, 1, 2, degree, degree + 1, 12):
                    one = source.poly(higher)
                    due = [value_of(one, number_of(x)) for x in greville(degree, knots)]
                    self.same(approximant(one, degree, knots), ratios(*due))

    def test_lines_are_made_anew(self):
        source = Source(213)
        for degree, knots in KNOTS:
            if degree > 0:
                one = source.poly(1)
                self.same(approximant(one, degree, knots), coefficients(one, degree, knots))

    def test_degree_0(self):
        for knots in (ratios(0, 1), None):
            self.fails("BadDegree", approximant, poly(1), 0, knots)


class Wrong(Case):
    def test_degrees(self):
        for degree, (name, fields) in wrong_integer("BadDegree", 0, 4):
            for function in (table_at, can_fit):
                self.fails(name, function, degree, HATS, None, **fields)
            for function in (fitted, nearest_row):
                self.fails(name, function, degree, HATS, None, None, **fields)

    def test_knots(self):
        for degree in range(5):
            for knots, (name, fields) in wrong_knots(degree):
                for function in (table_at, can_fit):
                    self.fails(name, function, degree, knots, None, **fields)
                for function in (fitted, nearest_row):
                    self.fails(name, function, degree, knots, None, None, **fields)
                if degree > 0:
                    self.fails(name, approximant, (), degree, knots, **fields)

    def test_places(self):
        for places, (name, fields) in wrong_rising(3, 3):
            for data in (ratios(1, 2, 3), None):
                self.fails(name, fitted, 1, HATS, places, data, **fields)
            self.fails(name, can_fit, 1, HATS, places, **fields)
        for places, (name, fields) in wrong_rising(3, 12):
            self.fails(name, table_at, 1, HATS, places, **fields)
            self.fails(name, nearest_row, 1, HATS, places, None, **fields)

    def test_data(self):
        for data, (name, fields) in wrong_tuple("BadData", 3):
            for function in (fitted, nearest_row):
                self.fails(name, function, 1, HATS, ratios(0, 1, "3/2"), data, **fields)
                # Data are asked for also where there is no answer.
                self.fails(name, function, 1, HATS, ratios(0, 1, 2), data, **fields)
        for data in NOT_TUPLES + (ratios(1, 2, 3), ratios(1, 2, 3, 4, 5)):
            self.fails("BadData", nearest_row, 1, HATS, ratios(0, 1, 2, 3), data)


if __name__ == "__main__":
    unittest.main()

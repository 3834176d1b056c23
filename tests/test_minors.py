"""Point 20: matrices, determinant, least_minor."""

import unittest
from fractions import Fraction
from itertools import combinations, permutations

from blendcurves.fitting import table_at
from blendcurves.minors import determinant, least_minor
from tests.helper import HUGE, Case, Source, number_of, numbers_of, ratio_of, ratios, wrong_matrix


def matrix(*rows):
    return tuple(ratios(*row) for row in rows)


def summed(rows):
    """The determinant as the sum over all orders of the columns."""
    total = Fraction(0)
    for order in permutations(range(len(rows))):
        part = Fraction(1)
        for at, column in enumerate(order):
            part *= rows[at][column]
        turned = sum(1 for one, after in combinations(order, 2) if one > after)
        total += -part if turned % 2 else part
    return total


def minors(rows):
    return [
        summed([[rows[at][column] for column in columns] for at in chosen])
        for many in range(1, min(len(rows), len(rows[0])) + 1)
        for chosen in combinations(range(len(rows)), many)
        for columns in combinations(range(len(rows[0])), many)
    ]


class Determinant(Case):
    def test_ordinary(self):
        self.same(determinant(matrix([1, 2], [3, 4])), (-2, 1))
        self.same(determinant(matrix(["1/2"])), (1, 2))
        self.same(determinant(matrix([0])), (0, 1))
        self.same(determinant(matrix([2, 0, 1], [1, 3, 0], [0, 5, 4])), (29, 1))
        self.same(determinant(matrix([0, 1], [1, 0])), (-1, 1))
        self.same(determinant(matrix([0, 0, 1], [1, 0, 0], [0, 1, 0])), (1, 1))
        self.same(determinant(matrix([0, 0, 1], [0, 1, 0], [1, 0, 0])), (-1, 1))
        self.same(determinant(matrix([1, 2], [2, 4])), (0, 1))
        self.same(determinant(matrix([HUGE, 1], [1, Fraction(1, HUGE)])), (0, 1))

    def test_orders(self):
        for many in range(1, 6):
            for order in permutations(range(many)):
                rows = [[Fraction(int(column == to)) for column in range(many)] for to in order]
                self.same(determinant(matrix(*rows)), ratio_of(summed(rows)))

    def test_many(self):
        source = Source(201)
        for many in range(1, 6):
            for most in (1, 2, 9):
                for _ in range(12):
                    rows = [source.many(many, most) for _ in range(many)]
                    self.same(determinant(matrix(*rows)), ratio_of(summed(rows)))

    def test_rows_that_are_not_free(self):
        source = Source(202)
        for many in range(2, 6):
            rows = [source.many(many) for _ in range(many - 1)]
            rows.insert(source.random.randint(0, many - 1),
                        [sum(column) / 3 for column in zip(*rows)])
            self.same(determinant(matrix(*rows)), (0, 1))

    def test_not_square(self):
        for high in range(1, 6):
            for wide in range(1, 6):
                rows = matrix(*[range(at, at + wide) for at in range(high)])
                if high == wide:
                    self.same(determinant(rows), ratio_of(summed(list(map(numbers_of, rows)))))
                else:
                    self.fails("BadMatrix", determinant, rows, row=None)
        # The number of a wrong row comes first.
        self.fails("BadMatrix", determinant, matrix([1, 2], [1, 2], [1]), row=2)
        self.fails("BadMatrix", determinant, matrix([1, 2], [1]), row=1)


class LeastMinor(Case):
    def test_ordinary(self):
        self.same(least_minor(matrix([1, 1], [1, 2])), (1, 1))
        self.same(least_minor(matrix([1, 2], [3, 4])), (-2, 1))
        self.same(least_minor(matrix([2, 2], [2, 2])), (0, 1))
        self.same(least_minor(matrix(["1/2"])), (1, 2))
        self.same(least_minor(matrix([5, 3, 4])), (3, 1))
        self.same(least_minor(matrix([5], [7], [3], [-2], [4])), (-2, 1))
        # The least one is of two, of the whole, of one number within.
        self.same(least_minor(matrix([1, 1, 1], [1, 3, 2], [1, 2, 1])), (-1, 1))
        self.same(least_minor(matrix([9, 9, 9], [9, -8, 9], [9, 9, 9])), (-153, 1))
        self.same(least_minor(matrix([1, 1, 0], [0, 1, 1], [1, 0, 1])), (-1, 1))

    def test_many(self):
        source = Source(203)
        for high in range(1, 6):
            for wide in range(1, 6):
                for most in (1, 9):
                    rows = [source.many(wide, most) for _ in range(high)]
                    self.same(least_minor(matrix(*rows)), ratio_of(min(minors(rows))))

    def test_the_order_of_rows_counts(self):
        self.same(least_minor(matrix([1, 2], [1, 3])), (1, 1))
        self.same(least_minor(matrix([1, 3], [1, 2])), (-1, 1))

    def test_tables(self):
        for degree, knots in [(1, ratios(0, 0, 1, 2, 2)), (2, ratios(0, 0, 0, 1, 3, 3, 3)),
                              (3, ratios(0, 1, 2, 3, 4, 5)), (2, ratios(0, 0, 0, 1, 1, 1))]:
            many = len(knots) - degree - 1
            places = ratios(*[Fraction(2 * at + 1, 3) for at in range(max(many, 5))])
            self.assertGreaterEqual(number_of(least_minor(table_at(degree, knots, places))), 0)


class Matrices(Case):
    def test_wrong(self):
        for value, (name, fields) in wrong_matrix():
            self.fails(name, determinant, value, **fields)
            self.fails(name, least_minor, value, **fields)

    def test_sizes(self):
        for high in range(1, 7):
            for wide in range(1, 7):
                rows = matrix(*[[1] * wide for _ in range(high)])
                if high > 5:
                    self.fails("BadMatrix", least_minor, rows, row=None)
                elif wide > 5:
                    self.fails("BadMatrix", least_minor, rows, row=0)
                else:
                    self.same(least_minor(rows), (int(min(high, wide) == 1), 1))


if __name__ == "__main__":
    unittest.main()

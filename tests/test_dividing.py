"""Point 4: nodes, data, polynomials through data, divided differences."""

import unittest
from fractions import Fraction
from itertools import permutations
from math import factorial

from blendcurves.dividing import data_of, divided, divided_of, through
from tests.helper import HUGE, ONE, Case, Source, number_of, poly, product, ratio_of, ratios
from tests.helper import value_of

NODES = [
    ratios(0), ratios(5), ratios("-1/2"), ratios(0, 1), ratios(2, 2), ratios(-1, -1, 3),
    ratios(0, 0, 0), ratios(-1, 0, 0, 0, 2), ratios(1, 1, 2, 2, 3, 3), ratios(0, 0, 0, 0, 1, 1, 1),
    ratios(*range(8)), ratios(*[3] * 8), ratios("-7/3", -1, -1, "1/5", "1/5", "1/5", 4, 9),
    ratios(-HUGE, 0, 0, HUGE),
]


def derivative(one, many):
    """The derivative number many, worked out apart from the package."""
    return poly(*[
        number_of(item) * Fraction(factorial(k), factorial(k - many))
        for k, item in enumerate(one) if k >= many
    ])


def data_due(one, nodes):
    return ratios(*[
        value_of(derivative(one, nodes[:at].count(node)), number_of(node))
        for at, node in enumerate(nodes)
    ])


class DataOf(Case):
    def test_ordinary(self):
        self.same(data_of(poly(0, 0, 0, 1), ratios(2, 2, 2, 3)), ratios(8, 12, 12, 27))
        self.same(data_of((), ratios(0, 0, 1)), ratios(0, 0, 0))
        self.same(data_of(poly(7), ratios(0, 0, 1, 1)), ratios(7, 0, 7, 0))

    def test_derivatives_are_not_divided(self):
        self.same(data_of(poly(*[0] * 7, 1), ratios(*[0] * 8)), ratios(*[0] * 7, factorial(7)))

    def test_many(self):
        source = Source(41)
        for nodes in NODES:
            for degree in (-1, 0, 1, 5, 12):
                one = source.poly(degree)
                self.same(data_of(one, nodes), data_due(one, nodes))


class Through(Case):
    def test_ordinary(self):
        self.same(through(ratios(0, 1, 2), ratios(0, 1, 4)), poly(0, 0, 1))
        self.same(through(ratios(0, 1, 2), ratios(5, 5, 5)), poly(5))
        self.same(through(ratios(0, 1, 2), ratios(0, 0, 0)), ())
        self.same(through(ratios(4), ratios(9)), poly(9))
        self.same(through(ratios(4), ratios(0)), ())
        self.same(through(ratios(0, 0, 1), ratios(0, 1, 0)), poly(0, 1, -1))

    def test_equal_nodes(self):
        due = poly(*[Fraction(k + 1, factorial(k)) for k in range(8)])
        self.same(through(ratios(*[0] * 8), ratios(*range(1, 9))), due)

    def test_many(self):
        source = Source(42)
        for nodes in NODES:
            for _ in range(3):
                data = ratios(*source.many(len(nodes)))
                answer = through(nodes, data)
                self.assertLessEqual(len(answer), len(nodes))
                self.same(data_due(answer, nodes), data)
                self.same(through(nodes, data_of(answer, nodes)), answer)

    def test_makes_polynomials_anew(self):
        source = Source(43)
        for nodes in NODES:
            one = source.poly(len(nodes) - 1)
            self.same(through(nodes, data_of(one, nodes)), one)


class Divided(Case):
    def test_ordinary(self):
        self.same(divided(ratios(0, 1, 3), ratios(1, 3, 25)), ratios(1, 2, 3))
        self.same(divided(ratios(2), ratios(7)), ratios(7))
        self.same(divided(ratios(2, 2), ratios(7, 8)), ratios(7, 8))
        self.same(divided(ratios(1, 2), ratios(0, 0)), ratios(0, 0))
        self.same(divided(ratios(0, 0, 0, 0), ratios(1, 1, 1, 1)), ratios(1, 1, "1/2", "1/6"))

    def test_sum_of_products(self):
        source = Source(44)
        for nodes in NODES:
            data = ratios(*source.many(len(nodes)))
            numbers = divided(nodes, data)
            self.assertEqual(len(numbers), len(nodes))
            for x in (Fraction(-5, 3), Fraction(0), Fraction(11)):
                total, factor = Fraction(0), Fraction(1)
                for node, number in zip(nodes, numbers):
                    total += number_of(number) * factor
                    factor *= x - number_of(node)
                self.assertEqual(total, value_of(through(nodes, data), x))


class DividedOf(Case):
    def test_ordinary(self):
        for nodes in NODES:
            many = len(nodes)
            self.same(divided_of(poly(*[0] * (many - 1), 1), nodes), ONE)
            self.same(divided_of(poly(*[0] * (many - 1), "5/7"), nodes), (5, 7))
            self.same(divided_of((), nodes), (0, 1))
            total = sum(number_of(node) for node in nodes)
            self.same(divided_of(poly(*[0] * many, 1), nodes), ratio_of(total))

    def test_lower_degrees(self):
        self.same(divided_of(poly(1, 2, 3), ratios(0, 1, 2, 3)), (0, 1))
        self.same(divided_of(poly(1, 2, 3), ratios(0, 0, 0, 0)), (0, 1))

    def test_last_of_divided(self):
        source = Source(45)
        for nodes in NODES:
            one = source.poly(12)
            self.same(divided_of(one, nodes), divided(nodes, data_of(one, nodes))[-1])

    def test_does_not_depend_on_the_order(self):
        # By the sum of the values over the products of the differences, for any order.
        nodes, one = ratios(-1, "1/2", 2, 5), poly(1, -4, 0, 0, 2, 1)
        for order in permutations(nodes):
            due = Fraction(0)
            for node in order:
                rest = product(*[poly(-number_of(other), 1) for other in order if other != node])
                due += value_of(one, number_of(node)) / value_of(rest, number_of(node))
            self.same(divided_of(one, nodes), ratio_of(due))


if __name__ == "__main__":
    unittest.main()

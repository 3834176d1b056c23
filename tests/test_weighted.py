"""Point 40: weighted rows."""

import unittest
from fractions import Fraction
from math import comb

from blendcurves.weighted import retimed, weighted_raised, weighted_split, weighted_value
from tests.helper import HUGE, WRONG_RATIO, Case, Source, number_of, numbers_of, ratio_of, ratios
from tests.helper import wrong, wrong_above_zero, wrong_short_row

ROW, WEIGHTS = ratios(0, 1), ratios(1, 3)
THREE = (ratios(1, "-1/2", 4), ratios("1/3", 2, 1))
WRONG_PART = WRONG_RATIO + wrong("BadRatio", [(0, 1), (1, 1), (-1, 2), (3, 2), (HUGE, 1)])
WRONG_FACTOR = WRONG_RATIO + wrong("BadRatio", [(0, 1), (-1, 1), (-1, HUGE)])


def told(numbers, t):
    """The value of a row of Fractions at t."""
    n = len(numbers) - 1
    return sum((number * comb(n, i) * (1 - t) ** (n - i) * t ** i
                for i, number in enumerate(numbers)), Fraction(0))


def value(row, weights, t):
    """The value at a Fraction, None if it would be divided by 0."""
    numbers, parts = numbers_of(row), numbers_of(weights)
    low = told(parts, t)
    return told([a * b for a, b in zip(numbers, parts)], t) / low if low else None


def some_rows(seed):
    """Weighted rows of 1 to 5 numbers."""
    source = Source(seed)
    return [(ROW, WEIGHTS), THREE] + [
        (source.row(degree), ratios(*[abs(number) + Fraction(1, 4) for number in source.many(degree + 1)]))
        for degree in range(5) for _ in range(4)
    ]


def some_numbers(seed):
    return [Fraction(0), Fraction(1), Fraction(1, 2), Fraction(-1)] + Source(seed).many(4)


class Shape(Case):
    def is_weighted(self, pair, many):
        self.assertEqual((type(pair), len(pair)), (tuple, 2))
        row, weights = pair
        self.assertEqual([type(row), len(row), type(weights), len(weights)], [tuple, many, tuple, many])
        self.same(row, ratios(*numbers_of(row)))
        self.same(weights, ratios(*numbers_of(weights)))
        self.assertGreater(min(numbers_of(weights)), 0)


class WeightedValue(Shape):
    def test_ordinary(self):
        self.same(weighted_value(ROW, WEIGHTS, (1, 2)), (3, 4))
        self.same(weighted_value(ROW, ratios(1, 1), (1, 3)), (1, 3))
        self.same(weighted_value(ratios(7), ratios(2), (HUGE, 3)), (7, 1))
        self.same(weighted_value(*THREE, (0, 1)), (1, 1))
        self.same(weighted_value(*THREE, (1, 1)), (4, 1))

    def test_many(self):
        for row, weights in some_rows(401):
            for t in some_numbers(402) + [Fraction(HUGE), Fraction(1, HUGE)]:
                due = value(row, weights, t)
                self.same(weighted_value(row, weights, ratio_of(t)), None if due is None else ratio_of(due))

    def test_divided_by_0(self):
        # 1 - t + 3 * t is 0 at -1/2, and 3 - 2 * t at 3/2.
        self.assertIsNone(weighted_value(ROW, WEIGHTS, (-1, 2)))
        self.assertIsNone(weighted_value(ROW, ratios(3, 1), (3, 2)))
        self.assertIsNone(weighted_value(ratios(0, 0), WEIGHTS, (-1, 2)))
        # The weights tell 1 + t to the power 2, 3 and 4, and t + 1 times t - 2.
        for weights, t in [((1, 2, 4), -1), ((1, 2, 4, 8), -1), ((1, 2, 4, 8, 16), -1),
                           ((1, "5/4", 1), -1), ((1, "5/4", 1), 2)]:
            row = ratios(*range(len(weights)))
            self.assertIsNone(weighted_value(row, ratios(*weights), ratio_of(t)))
            self.assertIsNotNone(weighted_value(row, ratios(*weights), ratio_of(t + Fraction(1, HUGE))))


class WeightedRaised(Shape):
    def test_ordinary(self):
        self.same(weighted_raised(ROW, WEIGHTS), (ratios(0, "3/4", 1), ratios(1, 2, 3)))
        self.same(weighted_raised(ratios(5), ratios(2)), (ratios(5, 5), ratios(2, 2)))

    def test_same_values(self):
        for row, weights in some_rows(403):
            if len(row) == 5:
                self.fails("TooLarge", weighted_raised, row, weights, most=4)
                continue
            found = weighted_raised(row, weights)
            self.is_weighted(found, len(row) + 1)
            for t in some_numbers(404):
                self.assertEqual(value(*found, t), value(row, weights, t))
                self.assertEqual(told(numbers_of(found[1]), t), told(numbers_of(weights), t))


class WeightedSplit(Shape):
    def test_ordinary(self):
        self.same(weighted_split(ROW, WEIGHTS, (1, 2)),
                  ((ratios(0, "3/4"), ratios(1, 2)), (ratios("3/4", 1), ratios(2, 3))))
        self.same(weighted_split(ratios(5), ratios(2), (1, 9)), ((ratios(5), ratios(2)),) * 2)

    def test_same_values(self):
        source = Source(405)
        for row, weights in some_rows(406):
            for _ in range(3):
                cut = Fraction(source.random.randint(1, 20), 21)
                found = weighted_split(row, weights, ratio_of(cut))
                self.assertEqual((type(found), len(found)), (tuple, 2))
                for part, low, high in zip(found, (Fraction(0), cut), (cut, Fraction(1))):
                    self.is_weighted(part, len(row))
                    for u in some_numbers(407):
                        t = low + u * (high - low)
                        self.assertEqual(value(*part, u), value(row, weights, t))
                        self.assertEqual(told(numbers_of(part[1]), u), told(numbers_of(weights), t))

    def test_places(self):
        for t in ((1, HUGE), (HUGE - 1, HUGE)):
            for part in weighted_split(*THREE, t):
                self.is_weighted(part, 3)


class Retimed(Shape):
    def test_ordinary(self):
        self.same(retimed(ROW, ratios(1, 1), (2, 1)), (ROW, ratios(1, 2)))
        self.same(retimed(*THREE, (1, 2)), (THREE[0], ratios("1/3", 1, "1/4")))
        self.same(retimed(*THREE, (1, 1)), THREE)
        self.same(retimed(ratios(3), ratios("5/2"), (9, 4)), (ratios(3), ratios("5/2")))

    def test_values(self):
        source = Source(408)
        for row, weights in some_rows(409):
            for _ in range(3):
                factor = abs(source.number()) + Fraction(1, 5)
                found = retimed(row, weights, ratio_of(factor))
                self.is_weighted(found, len(row))
                self.same(found[0], row)
                self.same(found[1], ratios(*[number_of(weight) * factor ** i
                                             for i, weight in enumerate(weights)]))
                for t in some_numbers(410):
                    low = 1 - t + factor * t
                    if low != 0:
                        self.assertEqual(value(*found, t), value(row, weights, factor * t / low))


class Wrong(Shape):
    def test_rows(self):
        for row, (name, fields) in wrong_short_row():
            for function in (weighted_value, weighted_split, retimed):
                self.fails(name, function, row, ratios(1, 2, 3), (1, 2), **fields)
                self.fails(name, function, row, None, None, **fields)
            self.fails(name, weighted_raised, row, ratios(1, 2, 3), **fields)
            self.fails(name, weighted_raised, row, None, **fields)

    def test_weights(self):
        for many in (1, 3, 5):
            row = ratios(*range(many))
            for weights, (name, fields) in wrong_above_zero("BadWeights", many):
                for function in (weighted_value, weighted_split, retimed):
                    self.fails(name, function, row, weights, (1, 2), **fields)
                    self.fails(name, function, row, weights, None, **fields)
                # TooLarge comes behind the errors of the arguments.
                self.fails(name, weighted_raised, row, weights, **fields)

    def test_ratios(self):
        for item, (name, fields) in WRONG_RATIO:
            self.fails(name, weighted_value, *THREE, item, **fields)
        for item, (name, fields) in WRONG_PART:
            self.fails(name, weighted_split, *THREE, item, **fields)
        for item, (name, fields) in WRONG_FACTOR:
            self.fails(name, retimed, *THREE, item, **fields)
            self.fails(name, retimed, ratios(3), ratios(1), item, **fields)


if __name__ == "__main__":
    unittest.main()

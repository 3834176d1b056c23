"""Point 35: the values of the function that halving comes near to."""

import unittest
from fractions import Fraction
from functools import lru_cache

from blendcurves.limits import limit_at, limit_values
from blendcurves.masks import four_points, halved, spline_mask
from tests.helper import HUGE, NOT_RATIOS, Case, basis, number_of, numbers_of, rank_of, ratio_of
from tests.helper import ratios, wrong_mask
from tests.test_masks import CHAIKIN, FOUR, some_masks

BOTTOMS = (1, 2, 4, 8, 16, 32, 64)
SEVERAL = [ratios(1, 1), ratios(1, "1/3", 1)]
NONE = [ratios(2, 3), ratios("1/2", "1/2"), ratios(3, -5), ratios(2, 3, 5)]
MANY = [CHAIKIN, FOUR, ratios(1, 5), ratios(5, 1), ratios("1/2", 1, "1/2"), ratios(2, 1, -3),
        four_points((0, 1)), four_points((-3, 8)), ratios("1/3", 1, "2/3"), ratios(3, 1, 7, 0, 2)]


def equations(mask):
    """The rows of what the numbers f(0), .. are multiplied by, less f(j), and of the sum of all."""
    m = len(mask) - 1
    numbers = numbers_of(mask)
    rows = []
    for j in range(m + 1):
        rows.append([(numbers[2 * j - i] if 0 <= 2 * j - i <= m else Fraction(0)) - int(i == j)
                     for i in range(m + 1)])
    return rows + [[Fraction(1)] * (m + 1)]


def many_solutions(mask):
    """0, 1 or 2 for none, one or several."""
    rows = equations(mask)
    full = [row + [Fraction(int(at == len(mask)))] for at, row in enumerate(rows)]
    if rank_of(full) > rank_of(rows):
        return 0
    return 1 if rank_of(rows) == len(mask) else 2


@lru_cache(maxsize=None)
def value(mask, values, x):
    """The value at a ratio with a power of 2 as its bottom, as the document has it."""
    if x < 0 or x > len(mask) - 1:
        return Fraction(0)
    if x.denominator == 1:
        return number_of(values[int(x)])
    return sum((number_of(number) * value(mask, values, 2 * x - k) for k, number in enumerate(mask)),
               Fraction(0))


class LimitValues(Case):
    def test_ordinary(self):
        self.same(limit_values(CHAIKIN), ratios(0, "1/2", "1/2", 0))
        self.same(limit_values(FOUR), ratios(0, 0, 0, 1, 0, 0, 0))
        self.same(limit_values(ratios("1/2", 1, "1/2")), ratios(0, 1, 0))
        self.same(limit_values(ratios(1, 5)), ratios(1, 0))
        self.same(limit_values(ratios(5, 1)), ratios(0, 1))
        self.same(limit_values(spline_mask(3)), ratios(0, "1/6", "2/3", "1/6", 0))

    def test_none(self):
        for mask in SEVERAL:
            self.assertEqual(many_solutions(mask), 2)
            self.assertIsNone(limit_values(mask))
        for mask in NONE:
            self.assertEqual(many_solutions(mask), 0)
            self.assertIsNone(limit_values(mask))
        self.assertEqual(spline_mask(0), SEVERAL[0])

    def test_their_equations(self):
        found = {}
        masks = MANY + SEVERAL + NONE + some_masks(351) + [spline_mask(degree) for degree in range(9)]
        # Of masks of sums 1 and 1 there are values as a rule.
        masks += [ratios("1/3", "-2/5", "2/3", "7/5"), ratios("1/2", 2, 3, -1, "-5/2"),
                  ratios(2, 0, -1, 0, 0, "1/2", 0, 0, 0, "1/2")]
        for mask in masks:
            values = limit_values(mask)
            due = many_solutions(mask)
            found[due] = found.get(due, 0) + 1
            if due != 1:
                self.assertIsNone(values)
                continue
            self.assertEqual((type(values), len(values)), (tuple, len(mask)))
            self.same(values, ratios(*numbers_of(values)))
            numbers = numbers_of(values)
            self.assertEqual(sum(numbers), 1)
            for j in range(len(mask)):
                self.assertEqual(numbers[j], sum(
                    number_of(number) * numbers[2 * j - k]
                    for k, number in enumerate(mask) if 0 <= 2 * j - k < len(mask)))
        self.assertEqual(sorted(found), [0, 1, 2])
        self.assertGreater(found[1], 12)

    def test_wrong(self):
        for mask, (name, fields) in wrong_mask():
            self.fails(name, limit_values, mask, **fields)
            self.fails(name, limit_at, mask, (1, 2), **fields)
            self.fails(name, limit_at, mask, None, **fields)


class LimitAt(Case):
    def test_ordinary(self):
        self.same(limit_at(CHAIKIN, (3, 2)), (3, 4))
        self.same(limit_at(CHAIKIN, (1, 2)), (1, 8))
        self.same(limit_at(FOUR, (5, 2)), (9, 16))
        self.same(limit_at(FOUR, (1, 2)), (0, 1))

    def test_integers(self):
        for mask in MANY:
            values = limit_values(mask)
            for x in range(len(mask)):
                self.same(limit_at(mask, (x, 1)), values[x])

    def test_outside(self):
        for mask in MANY:
            m = len(mask) - 1
            for x in (-1, -2, m + 1, m + 7, HUGE, -HUGE):
                self.same(limit_at(mask, (x, 1)), (0, 1))
            for bottom in BOTTOMS[1:]:
                for top in (-1, -2 * bottom - 1, m * bottom + 1, HUGE + 1, -HUGE - 1):
                    self.same(limit_at(mask, (top, bottom)), (0, 1))

    def test_all_bottoms(self):
        for mask in MANY + [spline_mask(8), spline_mask(5)]:
            values = limit_values(mask)
            for bottom in BOTTOMS:
                for top in range(1 - 2 * (bottom > 1), (len(mask) - 1) * bottom + 3, 2 + bottom // 5):
                    x = Fraction(top, bottom)
                    self.same(limit_at(mask, ratio_of(x)), ratio_of(value(mask, values, x)))

    def test_splines(self):
        for degree in range(1, 9):
            knots = [Fraction(k) for k in range(degree + 2)]
            for x in [Fraction(k, 64) for k in range(-10, 64 * (degree + 1) + 20, 23)] + knots:
                self.same(limit_at(spline_mask(degree), ratio_of(x)),
                          ratio_of(basis(degree, knots, 0, x)))

    def test_halving_comes_near(self):
        # Of integers the function is 1 at 3 alone: number i of four halvings is it at (i + 3) / 16.
        start, numbers = halved(FOUR, (0, ratios(1)), 4)
        for at, number in enumerate(numbers):
            self.same(limit_at(FOUR, ratio_of(Fraction(start + at + 3, 16))), number)

    def test_without_values(self):
        for mask in SEVERAL + NONE:
            self.assertIsNone(limit_values(mask))
            for x in ((0, 1), (1, 2), (-5, 1), (-1, 64), (99, 1), (HUGE, 1)):
                self.assertIsNone(limit_at(mask, x))

    def test_places(self):
        wrong = list(NOT_RATIOS) + [(1, 3), (1, 128), (65, 128), (1, 6), (1, 63), (1, 65), (-1, 256),
                                    (1, 2 ** 64), (5, 12), (1, HUGE), (2, 128), (2, 2)]
        for x in wrong:
            for mask in (CHAIKIN, FOUR, SEVERAL[0], NONE[0]):
                self.fails("BadPlace", limit_at, mask, x)


if __name__ == "__main__":
    unittest.main()

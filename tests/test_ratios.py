"""Point 2: ratio and compare."""

import unittest
from fractions import Fraction

from blendcurves.ratios import compare, ratio
from tests.helper import HUGE, NOT_RATIOS, Case, Source, ratio_of


class Ratio(Case):
    def test_lowest_terms(self):
        for top, low, due in [
            (4, -6, (-2, 3)), (-4, -6, (2, 3)), (0, 5, (0, 1)), (0, -5, (0, 1)), (7, 1, (7, 1)),
            (6, 3, (2, 1)), (-6, 3, (-2, 1)), (3, 6, (1, 2)), (1, -1, (-1, 1)),
        ]:
            self.same(ratio(top, low), due)

    def test_any_size(self):
        self.same(ratio(6 * HUGE, -4 * HUGE), (-3, 2))
        self.same(ratio(HUGE + 1, HUGE), (HUGE + 1, HUGE))

    def test_all_small_ones(self):
        for top in range(-12, 13):
            for low in list(range(-12, 0)) + list(range(1, 13)):
                self.same(ratio(top, low), ratio_of(Fraction(top, low)))

    def test_other_values(self):
        for value in (True, False, None, "1", "", [], [1], {}, (), (1, 1), (1,)):
            self.fails("BadRatio", ratio, value, 1)
            self.fails("BadRatio", ratio, 1, value)
            self.fails("BadRatio", ratio, value, 0)
            self.fails("BadRatio", ratio, 0, value)

    def test_zero(self):
        for top in (0, 1, -1, HUGE):
            self.fails("DividesByZero", ratio, top, 0)


class Compare(Case):
    def test_order(self):
        for one, other, due in [
            ((1, 2), (2, 3), -1), ((2, 3), (1, 2), 1), ((2, 3), (2, 3), 0), ((-1, 2), (-1, 3), -1),
            ((-1, 3), (-1, 2), 1), ((0, 1), (-1, 9), 1), ((0, 1), (1, 9), -1), ((0, 1), (0, 1), 0),
            ((HUGE, HUGE + 1), (HUGE + 1, HUGE + 2), -1), ((HUGE, 1), (HUGE, 1), 0),
        ]:
            self.same(compare(one, other), due)

    def test_many(self):
        source = Source(2)
        for _ in range(300):
            one, other = source.number(), source.number()
            self.same(compare(ratio_of(one), ratio_of(other)), (one > other) - (one < other))

    def test_other_values(self):
        for value in NOT_RATIOS:
            self.fails("BadRatio", compare, value, (1, 2))
            self.fails("BadRatio", compare, (1, 2), value)


if __name__ == "__main__":
    unittest.main()

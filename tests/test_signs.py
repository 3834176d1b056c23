"""Points 9 to 11: changes of signs, roots, positive polynomials, boxes."""

import unittest
from fractions import Fraction
from math import comb

from blendcurves.beziers import row_of
from blendcurves.polys import composed, divide, multiply, slope
from blendcurves.signs import all_roots, boxes, chain, changes, counted_roots, is_positive
from blendcurves.signs import positive_degree, roots_in, shows_boxes
from tests.helper import HUGE, NOT_RATIOS, ONE, Case, Source, number_of, numbers_of, poly
from tests.helper import product, ratio_of, ratios, with_roots

UNIT = ratios(0, 1)
CUBE = with_roots(-1, 0, 1)
ALONE = poly(2, -1, 1)
# A polynomial without roots, and the roots that others are given, some of them repeated.
ROOTS = [
    (), (0,), (1, 1), (-1, 0, 1), (0, 0, 0, 0), (Fraction(1, 3), Fraction(1, 3), 2),
    (-5, Fraction(-1, 2), Fraction(-1, 2), Fraction(-1, 2), 0, 4, 4),
    (1, 2, 3, 4, 5, 6, 7, 8, 9, 10), (1,) * 10, (Fraction(1, 1000), Fraction(1, 1001)),
    (HUGE, HUGE, -HUGE),
]
INTERVALS = [
    (0, 1), (-1, 0), (-1, 1), (1, 2), (Fraction(1, 3), 2), (0, Fraction(1, 3)), (-HUGE, HUGE),
    (3, 9), (Fraction(-1, 2), 4), (Fraction(1, 1001), Fraction(1, 1000)), (100, 200), (-6, -5),
]


def some_polys():
    """Pairs of roots and a polynomial with no others."""
    found = []
    for roots in ROOTS:
        found += [(roots, with_roots(*roots)), (roots, product(with_roots(*roots), poly(-7)))]
        if len(roots) < 11:
            found.append((roots, product(with_roots(*roots), ALONE)))
    return found


class Changes(Case):
    def test_ordinary(self):
        for numbers, due in [
            ((1, 0, -1), 1), ((0,), 0), ((5,), 0), ((0, 0, 0), 0), ((1, -1), 1), ((-1, 0, 0, -2), 0),
            ((1, -1, 1, -1, 1, -1, 1, -1, 1), 8), ((0, 1, 0), 0), ((0, -3, 0, 2, 2, -1, 0), 2),
            ((1, 2, 3), 0), ((HUGE, Fraction(-1, HUGE)), 1),
        ]:
            self.same(changes(ratios(*numbers)), due)


class Chain(Case):
    def test_ordinary(self):
        self.same(chain(CUBE), (CUBE, poly(-1, 0, 3), poly(0, "2/3"), poly(1)))
        self.same(chain(poly(2, 0, 5)), (poly(2, 0, 5), poly(0, 10), poly(-2)))
        self.same(chain(poly(1, -2, 1)), (poly(1, -2, 1), poly(-2, 2)))
        self.same(chain(poly(-3, 6)), (poly(-3, 6), poly(6)))

    def test_constants(self):
        for number in (1, -1, "5/7", HUGE):
            self.same(chain(poly(number)), (poly(number),))

    def test_opposites_of_rests(self):
        source = Source(91)
        for degree in range(1, 13):
            links = chain(source.poly(degree))
            self.same(links[1], slope(links[0]))
            for one, other, rest in zip(links, links[1:], links[2:]):
                self.same(multiply(rest, poly(-1)), divide(one, other)[1])
            self.same(divide(links[-2], links[-1])[1], ())
            self.assertNotIn((), links)


class Roots(Case):
    def test_in_an_interval(self):
        for roots, one in some_polys():
            for low, high in INTERVALS:
                due = len({root for root in roots if low < root <= high})
                self.same(roots_in(one, ratios(low, high)), due)

    def test_all(self):
        for roots, one in some_polys():
            self.same(all_roots(one), len(set(roots)))

    def test_counted(self):
        for roots, one in some_polys():
            for low, high in INTERVALS:
                due = len([root for root in roots if low < root < high])
                self.same(counted_roots(one, ratios(low, high)), due)

    def test_at_the_ends(self):
        for one in (CUBE, product(CUBE, CUBE), product(CUBE, CUBE, CUBE, poly(-1))):
            self.same(roots_in(one, ratios(-1, 1)), 2)
            self.same(roots_in(one, ratios(-1, 0)), 1)
            self.same(roots_in(one, ratios(1, 2)), 0)
            self.same(roots_in(one, ratios(-2, -1)), 1)
            self.same(counted_roots(one, ratios(-1, 1)), (len(one) - 1) // 3)
            self.same(counted_roots(one, ratios(-1, 0)), 0)
            self.same(counted_roots(one, ratios(-2, 2)), len(one) - 1)

    def test_roots_that_are_no_ratios(self):
        one = poly(-2, 0, 1)
        self.same(all_roots(one), 2)
        self.same(roots_in(one, ratios(0, 2)), 1)
        self.same(roots_in(one, ratios("7/5", "17/12")), 1)
        self.same(roots_in(one, ratios("17/12", 2)), 0)
        self.same(counted_roots(product(one, one, one), ratios(0, 2)), 3)
        self.same(counted_roots(product(one, one, poly(0, 1)), ratios(-2, 2)), 5)
        self.same(all_roots(poly(1, 0, 1)), 0)
        self.same(all_roots(poly(1, -3, 0, 1)), 3)

    def test_constants(self):
        for number in (1, -1):
            self.same(all_roots(poly(number)), 0)
            self.same(roots_in(poly(number), UNIT), 0)
            self.same(counted_roots(poly(number), UNIT), 0)

    def test_zero_is_not_allowed(self):
        for function in (chain, all_roots):
            self.fails("BadPolynomial", function, ())
        for function in (roots_in, counted_roots):
            self.fails("BadPolynomial", function, (), UNIT)
            self.fails("BadPolynomial", function, (), None)
        self.fails("BadPolynomial", positive_degree, (), UNIT, 24)
        self.fails("BadPolynomial", boxes, (), UNIT, ONE)
        self.fails("BadPolynomial", shows_boxes, (), UNIT, ONE, ())

    def test_at_most_changes(self):
        source = Source(92)
        for _ in range(40):
            one, interval = source.poly(source.random.randint(0, 8)), source.interval()
            many = counted_roots(one, interval)
            for degree in range(len(one) - 1, 9):
                signs = changes(row_of(one, degree, interval))
                self.assertLessEqual(many, signs)
                self.assertEqual((signs - many) % 2, 0)


class Positive(Case):
    def test_ordinary(self):
        self.same(is_positive(poly(1), UNIT), True)
        self.same(is_positive(poly(-1), UNIT), False)
        self.same(is_positive(ALONE, ratios(-HUGE, HUGE)), True)
        self.same(is_positive(poly("1/4", -1, 1), UNIT), False)
        self.same(is_positive(poly("1/3", -1, 1), UNIT), True)

    def test_zero_is_allowed(self):
        self.same(is_positive((), UNIT), False)
        self.fails("BadInterval", is_positive, (), ratios(1, 0))

    def test_both_ends_count(self):
        self.same(is_positive(poly(0, 1), UNIT), False)
        self.same(is_positive(poly(1, -1), UNIT), False)
        self.same(is_positive(poly(0, 1), ratios("1/9", 1)), True)
        self.same(is_positive(poly(0, 0, 1), UNIT), False)
        self.same(is_positive(poly(1, -2, 1), UNIT), False)
        self.same(is_positive(poly(1, -2, 1), ratios(2, 3)), True)

    def test_many(self):
        for roots, one in some_polys():
            for low, high in INTERVALS:
                free = not [root for root in roots if low <= root <= high]
                above = sum(number * low ** k for k, number in enumerate(numbers_of(one))) > 0
                self.same(is_positive(one, ratios(low, high)), free and above)


def positive_row(one, interval, degree):
    """Tell whether the row is above 0, by the coefficients for the interval from 0 to 1."""
    low, high = map(number_of, interval)
    numbers = numbers_of(composed(one, poly(low, high - low)))
    return all(
        sum(numbers[k] * Fraction(comb(i, k), comb(degree, k)) for k in range(len(numbers))) > 0
        for i in range(degree + 1)
    )


class PositiveDegree(Case):
    def test_ordinary(self):
        one = poly("1/3", -1, 1)
        self.same(positive_degree(one, UNIT, 24), 5)
        self.same(positive_degree(one, UNIT, 5), 5)
        self.same(positive_degree(one, UNIT, 4), None)
        self.same(positive_degree(one, UNIT, 2), None)
        self.same(positive_degree(poly(3), UNIT, 0), 0)
        self.same(positive_degree(poly(-3), UNIT, 0), None)
        self.same(positive_degree(poly(-3), UNIT, 24), None)
        self.same(positive_degree(poly(0, 1), UNIT, 24), None)
        self.same(positive_degree(poly(1, 1), UNIT, 24), 1)

    def test_degrees_above_8(self):
        self.same(positive_degree(poly(*[1] * 13), UNIT, 12), 12)
        # x * x - 2 / 3 * x + 1 / 9 is 0 at 1 / 3: the less is added, the greater the degree.
        for part, due in [(20, 6), (36, 10), (44, 10), (45, 12), (62, 15), (63, 16), (99, 24),
                          (103, 24), (104, None), (10 ** 9, None)]:
            one = poly(Fraction(1, 9) + Fraction(1, part), Fraction(-2, 3), 1)
            self.same(positive_degree(one, UNIT, 24), due)
            if due is not None:
                self.same(positive_degree(one, UNIT, due), due)
                self.same(positive_degree(one, UNIT, due - 1), None)
            due_again = [n for n in range(2, 25) if positive_row(one, UNIT, n)]
            self.assertEqual(due_again[:1], [] if due is None else [due])

    def test_many(self):
        source = Source(101)
        for _ in range(150):
            one, interval = source.poly(source.random.randint(0, 5)), source.interval()
            one = product(one, one, poly(1)) if source.random.random() < 0.5 else one
            due = [n for n in range(len(one) - 1, 25) if positive_row(one, interval, n)]
            self.same(positive_degree(one, interval, 24), due[0] if due else None)

    def test_most(self):
        one = poly(*[1] * 4)
        for most in range(3, 25):
            self.same(positive_degree(one, UNIT, most), 3)
        for most in (2, 0, -1, 25, HUGE, True, False, None, "3", (3, 1)):
            self.fails("BadNumber", positive_degree, one, UNIT, most)
        self.fails("BadNumber", positive_degree, poly(*[1] * 13), UNIT, 11)
        self.fails("BadNumber", positive_degree, poly(1), UNIT, False)


class Boxes(Case):
    def check(self, roots, low, high, wide, found):
        """Check boxes by the roots, apart from the package."""
        self.assertIs(found.__class__, tuple)
        ends = [low] + [number_of(end) for box in found for end in box] + [high]
        self.assertEqual(ends, sorted(ends))
        due = {root for root in roots if low < root <= high}
        self.assertEqual(len(found), len(due))
        for box in found:
            start, end = map(number_of, box)
            self.assertEqual(len([root for root in due if start < root <= end]), 1)
            self.assertLess(start, end)
            self.assertLessEqual(end - start, wide)

    def test_many(self):
        for roots, one in some_polys():
            for low, high in INTERVALS:
                if high - low > 1000:
                    continue
                for wide in (Fraction(1, 7), Fraction(1), Fraction(50), Fraction(1, 10 ** 9)):
                    found = boxes(one, ratios(low, high), ratio_of(wide))
                    self.check(roots, low, high, wide, found)
                    self.same(shows_boxes(one, ratios(low, high), ratio_of(wide), found), True)

    def test_narrow(self):
        one = poly(-2, 0, 1)
        found = boxes(one, ratios(-2, 2), (1, 10 ** 60))
        self.assertEqual(len(found), 2)
        self.same(shows_boxes(one, ratios(-2, 2), (1, 10 ** 60), found), True)
        near = with_roots(Fraction(1, 3), Fraction(1, 3) + Fraction(1, 10 ** 40))
        for wide in (ONE, (1, 10 ** 45)):
            found = boxes(near, UNIT, wide)
            self.assertEqual(len(found), 2)
            self.same(shows_boxes(near, UNIT, wide, found), True)

    def test_none(self):
        self.same(boxes(poly(5), UNIT, ONE), ())
        self.same(boxes(with_roots(0), UNIT, ONE), ())
        self.same(boxes(ALONE, ratios(-9, 9), (1, 9)), ())

    def test_huge_interval(self):
        found = boxes(CUBE, ratios(-10 ** 30, 10 ** 30), ONE)
        self.check((-1, 0, 1), -10 ** 30, 10 ** 30, 1, found)


def pairs(*ends):
    return tuple(ratios(low, high) for low, high in zip(ends[::2], ends[1::2]))


class ShowsBoxes(Case):
    def shows(self, due, value, wide=1, low=-2, high=2, one=CUBE):
        found = shows_boxes(one, ratios(low, high), ratio_of(wide), value)
        self.same(found, due)

    def test_boxes(self):
        self.shows(True, pairs(-2, -1, -1, 0, 0, 1))
        self.shows(True, pairs("-3/2", "-1/2", "-1/2", "1/2", "1/2", "3/2"))
        self.shows(True, pairs("-11/10", -1, "-1/100", 0, "99/100", 1), wide="1/2")
        self.shows(True, pairs(-1, 0, 0, 1), low=-1, high=1)
        self.shows(True, (), one=ALONE)
        self.shows(True, (), low=1)
        self.shows(True, pairs(0, 1), one=product(CUBE, CUBE), low=0)

    def test_wrong_boxes(self):
        self.shows(False, ())
        self.shows(False, pairs(-2, -1, -1, 0))
        self.shows(False, pairs(-1, 0, 0, 1))
        self.shows(False, pairs(-2, -1, -1, 0, 0, 1), wide="99/100")
        self.shows(False, pairs(-2, -1, -1, 0, 0, 1), low="-19/10")
        self.shows(False, pairs(-2, -1, -1, 0, "1/2", "5/2"), wide=5)
        self.shows(False, pairs(-1, 0, -2, -1, 0, 1))
        self.shows(False, pairs(0, 1, -1, 0, -2, -1))
        self.shows(False, pairs(-2, -1, "-11/10", 0, 0, 1), wide=5)
        self.shows(False, pairs(-2, -1, -1, 0, 0, 1, 1, 2))
        self.shows(False, pairs(-2, "-3/2", -1, 0, 0, 1))
        self.shows(False, pairs(-2, "-3/2", -2, 0, 0, 1), wide=5)
        self.shows(False, pairs(-2, 0, 0, "1/2", "1/2", 1), wide=5)
        self.shows(False, pairs(-2, -1, -1, "-1/2", "-1/2", 1), wide=5, one=product(CUBE))
        self.shows(False, pairs(1, 2), low=1)
        self.shows(False, pairs(0, 1), one=ALONE, low=0)
        self.shows(False, pairs(-2, 2), wide=4)
        self.shows(False, pairs(0, 1, 0, 1, 0, 1))

    def test_the_ends_of_boxes(self):
        # The root at the beginning of a box is not in it, that at its end is.
        self.shows(False, pairs(-1, "-1/2", "-1/2", 0, 0, 1))
        self.shows(False, pairs(-2, -1, -1, "-1/100", 0, 1))

    def test_any_value(self):
        for value in NOT_RATIOS + (
            [ratios(-2, -1), ratios(-1, 0), ratios(0, 1)], (ratios(-2, -1), None, ratios(0, 1)),
            (ratios(-2, -1), list(ratios(-1, 0)), ratios(0, 1)), (1, 2, 3), (None,) * 3,
            (((-2, 1), (-1, True)), ratios(-1, 0), ratios(0, 1)), ((), (), ()), ("ab",) * 3,
            (ratios(-2, -1), ratios(-1, 0), ((False, 1), (1, 1))), ({}, [], ""),
            (((-2, 1), (-2, 2)), ratios(-1, 0), ratios(0, 1)), (ratios(-2, -1),) * 3,
            (ratios(-2, -1), ratios(-1, 0), ratios(0, 1, 2)), ((ratios(-2, -1),),) * 3,
            (ratios(-2, -1), ratios(-1, 0), ((0, 1), (2, 2))), (ratios(0, 1),) * 1000,
        ):
            self.shows(False, value)
        for value in NOT_RATIOS:
            self.shows(value == () and value.__class__ is tuple, value, one=ALONE)

    def test_other_arguments(self):
        for value in ((), None, pairs(0, 1)):
            self.fails("BadPolynomial", shows_boxes, (), UNIT, ONE, value)
            self.fails("BadInterval", shows_boxes, CUBE, ratios(1, 1), ONE, value)
            self.fails("BadRatio", shows_boxes, CUBE, UNIT, (0, 1), value)
            self.fails("BadRatio", shows_boxes, CUBE, UNIT, (-1, 2), value)


if __name__ == "__main__":
    unittest.main()

"""Point 38: patches."""

import unittest
from fractions import Fraction
from math import comb

from blendcurves.patches import patch_join, patch_of, patch_raised, patch_row, patch_slopes
from blendcurves.patches import patch_split, patch_terms, patch_turned, patch_value
from tests.helper import HUGE, WRONG_RATIO, Case, Source, derived, at_fraction, interpolated
from tests.helper import number_of, numbers_of, order_of, ratio_of, ratios, wrong_integer
from tests.helper import wrong_patch, wrong_terms

BILINEAR = (ratios(0, 0), ratios(0, 1))
PATCH = (ratios(1, 2, "1/3"), ratios(0, -4, 5))
WRONG_WAY = wrong_integer("BadNumber", 0, 1)


def patch_from(source, high, wide):
    return tuple(source.row(wide) for _ in range(high + 1))


def some_patches(seed):
    source = Source(seed)
    return [BILINEAR, PATCH] + [patch_from(source, high, wide) for high in range(5) for wide in range(5)]


def some_numbers(seed):
    source = Source(seed)
    return [(Fraction(0), Fraction(0)), (Fraction(1), Fraction(0)), (Fraction(1), Fraction(1)),
            (Fraction(1, 2), Fraction(2, 3))] + [tuple(source.many(2)) for _ in range(4)]


def weight(degree, i, t):
    return comb(degree, i) * (1 - t) ** (degree - i) * t ** i


def value(patch, s, t):
    """The sum that the document gives."""
    high, wide = len(patch) - 1, len(patch[0]) - 1
    return sum((number_of(number) * weight(high, i, s) * weight(wide, j, t)
                for i, row in enumerate(patch) for j, number in enumerate(row)), Fraction(0))


def in_s(patch, t, shift=0):
    """The polynomial of Fractions of the values at s less shift, for one t."""
    return interpolated([(Fraction(x), value(patch, Fraction(x - shift), t))
                         for x in range(len(patch))])


def in_t(patch, s):
    return interpolated([(Fraction(x), value(patch, s, Fraction(x))) for x in range(len(patch[0]))])


def joined_up_to(one, other):
    """The order by derivatives at more places of the common side than the degree."""
    most = len(one) - 1
    return min(order_of(in_s(one, t), in_s(other, t, 1), Fraction(1), most)
               for t in [Fraction(k, 3) for k in range(len(one[0]) + 1)])


class Shape(Case):
    def is_patch(self, patch, high, wide):
        self.assertEqual(type(patch), tuple)
        self.assertEqual([(type(row), len(row)) for row in patch], [(tuple, wide + 1)] * (high + 1))
        self.assertIsNotNone(patch_value(patch, (0, 1), (0, 1)))


class Values(Shape):
    def test_ordinary(self):
        self.same(patch_value(BILINEAR, (1, 2), (1, 3)), (1, 6))
        self.same(patch_value(PATCH, (0, 1), (1, 1)), (1, 3))
        self.same(patch_value(PATCH, (1, 1), (0, 1)), (0, 1))
        self.same(patch_value((ratios("7/3"),), (HUGE, 1), (-5, 2)), (7, 3))

    def test_its_sum(self):
        for patch in some_patches(381):
            for s, t in some_numbers(382):
                self.same(patch_value(patch, ratio_of(s), ratio_of(t)), ratio_of(value(patch, s, t)))

    def test_row(self):
        self.same(patch_row(PATCH, 0, (0, 1)), PATCH[0])
        self.same(patch_row(PATCH, 0, (1, 1)), PATCH[1])
        self.same(patch_row(PATCH, 0, (1, 2)), ratios("1/2", -1, "8/3"))
        self.same(patch_row(PATCH, 1, (0, 1)), ratios(1, 0))
        self.same(patch_row(PATCH, 1, (1, 1)), ratios("1/3", 5))
        for patch in some_patches(383):
            for s, t in some_numbers(384):
                found = patch_row(patch, 0, ratio_of(s))
                self.same(found, ratios(*numbers_of(found)))
                self.assertEqual((type(found), len(found)), (tuple, len(patch[0])))
                self.assertEqual(value((found,), Fraction(9), t), value(patch, s, t))
                found = patch_row(patch, 1, ratio_of(t))
                self.assertEqual((type(found), len(found)), (tuple, len(patch)))
                self.assertEqual(value((found,), Fraction(9), s), value(patch, s, t))


class Others(Shape):
    def test_turned(self):
        self.same(patch_turned(PATCH), (ratios(1, 0), ratios(2, -4), ratios("1/3", 5)))
        for patch in some_patches(385):
            found = patch_turned(patch)
            self.is_patch(found, len(patch[0]) - 1, len(patch) - 1)
            self.same(patch_turned(found), patch)
            for s, t in some_numbers(386):
                self.assertEqual(value(found, t, s), value(patch, s, t))

    def test_raised(self):
        self.same(patch_raised(BILINEAR, 0), (ratios(0, 0), ratios(0, "1/2"), ratios(0, 1)))
        self.same(patch_raised(BILINEAR, 1), (ratios(0, 0, 0), ratios(0, "1/2", 1)))
        for patch in some_patches(387):
            high, wide = len(patch) - 1, len(patch[0]) - 1
            for way, degree in enumerate((high, wide)):
                if degree == 4:
                    self.fails("TooLarge", patch_raised, patch, way, most=4)
                    continue
                found = patch_raised(patch, way)
                self.is_patch(found, high + (way == 0), wide + (way == 1))
                for s, t in some_numbers(388):
                    self.assertEqual(value(found, s, t), value(patch, s, t))

    def test_split(self):
        self.same(patch_split(BILINEAR, 0, (1, 2)),
                  ((ratios(0, 0), ratios(0, "1/2")), (ratios(0, "1/2"), ratios(0, 1))))
        self.same(patch_split(BILINEAR, 1, (1, 3)),
                  ((ratios(0, 0), ratios(0, "1/3")), (ratios(0, 0), ratios("1/3", 1))))
        source = Source(389)
        for patch in some_patches(390):
            high, wide = len(patch) - 1, len(patch[0]) - 1
            for way in (0, 1):
                for cut in [Fraction(0), Fraction(1), Fraction(-3, 2), Fraction(5, 2), source.number()]:
                    found = patch_split(patch, way, ratio_of(cut))
                    self.assertEqual((type(found), len(found)), (tuple, 2))
                    for part in found:
                        self.is_patch(part, high, wide)
                    for u, other in some_numbers(391)[2:6]:
                        for part, x in zip(found, (cut * u, cut + (1 - cut) * u)):
                            if way == 0:
                                self.assertEqual(value(part, u, other), value(patch, x, other))
                            else:
                                self.assertEqual(value(part, other, u), value(patch, other, x))
                    if cut == 0:
                        self.same(found[1], patch)
                    if cut == 1:
                        self.same(found[0], patch)

    def test_slopes(self):
        self.same(patch_slopes(BILINEAR, 0), (ratios(0, 1),))
        self.same(patch_slopes(BILINEAR, 1), (ratios(0), ratios(1)))
        self.same(patch_slopes((ratios(1, 2, 3),), 0), (ratios(0, 0, 0),))
        self.same(patch_slopes((ratios(1), ratios(2)), 1), (ratios(0), ratios(0)))
        for patch in some_patches(392):
            high, wide = len(patch) - 1, len(patch[0]) - 1
            first, second = patch_slopes(patch, 0), patch_slopes(patch, 1)
            self.is_patch(first, max(high - 1, 0), wide)
            self.is_patch(second, high, max(wide - 1, 0))
            for s, t in some_numbers(393):
                self.assertEqual(value(first, s, t), at_fraction(derived(in_s(patch, t)), s))
                self.assertEqual(value(second, s, t), at_fraction(derived(in_t(patch, s)), t))


def terms_at(terms, x, y):
    return sum((number_of(number) * x ** i * y ** j for (i, j), number in terms), Fraction(0))


class Terms(Shape):
    def test_ordinary(self):
        self.same(patch_terms(BILINEAR), (((1, 1), (1, 1)),))
        self.same(patch_terms((ratios(3),)), (((0, 0), (3, 1)),))
        self.same(patch_terms((ratios(0, 1, 2), ratios(0, 1, 2))), (((0, 1), (2, 1)),))
        self.same(patch_of((((1, 1), (1, 1)),), 1, 1), BILINEAR)
        self.same(patch_of((((0, 2), (3, 1)),), 1, 2), (ratios(0, 0, 3),) * 2)
        self.same(patch_of((((2, 0), (3, 1)),), 2, 1), (ratios(0, 0), ratios(0, 0), ratios(3, 3)))
        self.same(patch_of((((0, 0), (5, 2)),), 0, 0), (ratios("5/2"),))

    def test_none(self):
        for high in range(5):
            for wide in range(5):
                patch = (ratios(*[0] * (wide + 1)),) * (high + 1)
                self.same(patch_terms(patch), ())
                self.same(patch_of((), high, wide), patch)

    def test_there_and_back(self):
        for patch in some_patches(394):
            terms = patch_terms(patch)
            self.assertEqual(list(terms), sorted(terms))
            for (i, j), number in terms:
                self.assertEqual([type(i), type(j)], [int, int])
                self.assertTrue(0 <= i < len(patch) and 0 <= j < len(patch[0]) and number != (0, 1))
            for s, t in some_numbers(395):
                self.assertEqual(terms_at(terms, s, t), value(patch, s, t))
            self.same(patch_of(terms, len(patch) - 1, len(patch[0]) - 1), patch)
            for way, degree in ((0, len(patch)), (1, len(patch[0]))):
                if degree < 5:
                    raised = patch_raised(patch, way)
                    self.same(patch_of(terms, len(raised) - 1, len(raised[0]) - 1), raised)

    def test_any_terms(self):
        source = Source(396)
        for high in range(5):
            for wide in range(5):
                powers = [(i, j) for i in range(high + 1) for j in range(wide + 1)]
                powers = sorted(source.random.sample(powers, source.random.randint(0, len(powers))))
                terms = tuple((power, ratio_of(source.number() or 1)) for power in powers)
                patch = patch_of(terms, high, wide)
                self.is_patch(patch, high, wide)
                self.same(patch_terms(patch), terms)
                for s, t in some_numbers(397):
                    self.assertEqual(value(patch, s, t), terms_at(terms, s, t))

    def test_degrees(self):
        for i in range(6):
            for j in range(6):
                for terms in ((((i, j), (1, 2)),), tuple(sorted({(0, 0): (1, 3), (i, j): (2, 1)}.items())),
                              tuple(sorted({(i, 0): (1, 3), (0, j): (2, 1)}.items()))):
                    for high in range(5):
                        for wide in range(5):
                            if high < i or wide < j:
                                self.fails("BadDegree", patch_of, terms, high, wide)
                            else:
                                self.is_patch(patch_of(terms, high, wide), high, wide)
        for degree, (name, fields) in wrong_integer("BadDegree", 0, 4):
            for terms in ((), (((0, 1), (1, 2)), ((1, 0), (1, 2)))):
                self.fails(name, patch_of, terms, degree, 2, **fields)
                self.fails(name, patch_of, terms, degree, None, **fields)
                self.fails(name, patch_of, terms, 2, degree, **fields)
        self.fails("BadDegree", patch_of, (((0, HUGE), (1, 1)),), 4, 4)

    def test_wrong_terms(self):
        for terms, (name, fields) in wrong_terms():
            self.fails(name, patch_of, terms, 4, 4, **fields)
            self.fails(name, patch_of, terms, None, None, **fields)


class PatchJoin(Shape):
    def test_ordinary(self):
        self.same(patch_join(BILINEAR, (ratios(0, 1), ratios(0, 2))), 1)
        self.same(patch_join(BILINEAR, (ratios(0, 1), ratios(0, 3))), 0)
        self.same(patch_join(BILINEAR, BILINEAR), -1)
        self.same(patch_join((ratios(1, 2),), (ratios(1, 2),)), 0)
        self.same(patch_join((ratios(1, 2),), (ratios(1, 3),)), -1)
        # The derivatives along the other way do not help.
        self.same(patch_join((ratios(0), ratios(1)), (ratios(1), ratios(1))), 0)

    def test_all_orders(self):
        source = Source(398)
        seen = {}
        for high in range(5):
            for wide in range(5):
                one = patch_from(source, high, wide)
                for kept in range(-1, high + 1):
                    other = next_patch(one, kept, source)
                    due = joined_up_to(one, other)
                    self.assertGreaterEqual(due, kept)
                    self.same(patch_join(one, other), due)
                    seen[(high, due)] = True
        for high in range(5):
            for order in range(-1, high + 1):
                self.assertIn((high, order), seen)

    def test_one_number_alone(self):
        source = Source(399)
        for high in range(5):
            one = patch_from(source, high, 2)
            same = next_patch(one, high, source)
            self.same(patch_join(one, same), high)
            for i in range(high + 1):
                for j in range(3):
                    number = ratio_of(number_of(same[i][j]) + 1)
                    row = same[i][:j] + (number,) + same[i][j + 1:]
                    self.same(patch_join(one, same[:i] + (row,) + same[i + 1:]), i - 1)

    def test_other_degrees(self):
        patches = [(ratios(*range(wide + 1)),) * (high + 1) for high in range(5) for wide in range(5)]
        for one in patches:
            for other in patches:
                if (len(one), len(one[0])) == (len(other), len(other[0])):
                    self.assertIsInstance(patch_join(one, other), int)
                else:
                    self.fails("BadPatch", patch_join, one, other)


def next_patch(one, kept, source):
    """The patch on the next interval, with other numbers behind those that join up to an order."""
    rows = []
    for i in range(len(one)):
        row = []
        for j in range(len(one[0])):
            column = [number_of(item[j]) for item in one]
            row.append(beyond(column)[i] if i <= kept else source.number())
        rows.append(ratios(*row))
    return tuple(rows)


def beyond(column):
    """The row on the interval from 1 to 2 of a row on that from 0 to 1."""
    found = []
    while column:
        found.append(column[-1])
        column = [2 * after - one for one, after in zip(column, column[1:])]
    return found


class Wrong(Shape):
    def test_patches(self):
        for patch, (name, fields) in wrong_patch():
            for function, others in [(patch_value, [(1, 2), (1, 3)]), (patch_row, [0, (1, 2)]),
                                     (patch_turned, []), (patch_raised, [1]), (patch_slopes, [0]),
                                     (patch_split, [1, (1, 2)]), (patch_terms, [])]:
                self.fails(name, function, patch, *others, **fields)
                self.fails(name, function, patch, *[None for _ in others], **fields)
            self.fails(name, patch_join, patch, PATCH, **fields)
            self.fails(name, patch_join, patch, None, **fields)
        for patch, (name, fields) in wrong_patch((1, 2)):
            self.fails(name, patch_join, PATCH, patch, **fields)

    def test_ways(self):
        full = (ratios(*range(5)),) * 5
        for way, (name, fields) in WRONG_WAY:
            for patch in (PATCH, full):
                self.fails(name, patch_raised, patch, way, **fields)
                self.fails(name, patch_slopes, patch, way, **fields)
                for function in (patch_row, patch_split):
                    self.fails(name, function, patch, way, (1, 2), **fields)
                    self.fails(name, function, patch, way, None, **fields)

    def test_ratios(self):
        for item, (name, fields) in WRONG_RATIO:
            self.fails(name, patch_value, PATCH, item, (1, 2), **fields)
            self.fails(name, patch_value, PATCH, item, None, **fields)
            self.fails(name, patch_value, PATCH, (1, 2), item, **fields)
            for way in (0, 1):
                self.fails(name, patch_row, PATCH, way, item, **fields)
                self.fails(name, patch_split, PATCH, way, item, **fields)


if __name__ == "__main__":
    unittest.main()

"""Points 32 to 34 and 36: masks, sequences that are halved, quotients, norms, some masks."""

import unittest
from fractions import Fraction
from math import comb

from blendcurves.masks import contracts, even_odd, four_points, halved, is_passing, norm
from blendcurves.masks import poly_halved, shorter, spline_mask, sum_order
from tests.helper import HUGE, WRONG_POLY, WRONG_RATIO, Case, Source, interpolated, number_of
from tests.helper import numbers_of, poly, product, ratio_of, ratios, value_of, wrong_integer
from tests.helper import wrong_mask, wrong_sequence

CHAIKIN = ratios("1/4", "3/4", "3/4", "1/4")
FOUR = ratios("-1/16", 0, "9/16", 1, "9/16", 0, "-1/16")
UNEVEN = ratios(1, 2, 3)
LONG = ratios("1/2", 0, 0, 3, -1, 0, "2/3", 0, 0, -5)
ZEROS = ratios(1, *[0] * 8, 1)


def some_masks(seed):
    source = Source(seed)
    found = [CHAIKIN, FOUR, UNEVEN, LONG, ZEROS, ratios(1, 1), ratios(2, -3), ratios(1, -1)]
    for many in range(2, 11):
        numbers = source.many(many)
        numbers[0], numbers[-1] = numbers[0] or Fraction(1), numbers[-1] or Fraction(2)
        found.append(ratios(*numbers))
    return found


def some_sequences(seed):
    source = Source(seed)
    return [(0, ()), (-999, ratios(1)), (999, ratios(*[0] * 40)), (999, ratios(*range(40))),
            (-7, ratios(0, 0, 1, 0, -2, 0)), (5, ratios("1/2", "1/3")),
            (-999, ratios(*source.many(40))), (3, ratios(*source.many(7)))]


def place_by_place(mask, sequence, many):
    """A dict from places to numbers other than 0, by the sum that the document gives."""
    numbers = {sequence[0] + at: item for at, item in enumerate(numbers_of(sequence[1])) if item}
    for _ in range(many):
        if not numbers:
            return {}
        low, high = 2 * min(numbers), 2 * max(numbers) + len(mask) - 1
        found = {}
        for i in range(low, high + 1):
            total = sum((number_of(mask[i - 2 * k]) * numbers.get(k, 0)
                         for k in range((i - len(mask)) // 2, i // 2 + 1)
                         if 0 <= i - 2 * k < len(mask)), Fraction(0))
            if total:
                found[i] = total
        numbers = found
    return numbers


def norm_by_halving(numbers, many):
    """The norm of a mask or of a quotient, from the places of what halving makes."""
    sizes = {}
    for i, number in place_by_place(numbers, (0, ((1, 1),)), many).items():
        sizes[i % 2 ** many] = sizes.get(i % 2 ** many, 0) + abs(number)
    return max(sizes.values())


def quotient(numbers):
    """The quotient by 1 + x from the greatest power down, None if there is a rest."""
    rest = numbers_of(numbers)
    found = []
    while len(rest) > 1:
        found.append(rest.pop())
        rest[-1] -= found[-1]
    return ratios(*found[::-1]) if rest == [0] else None


class Halved(Case):
    def test_ordinary(self):
        self.same(halved(CHAIKIN, (0, ratios(4)), 1), (0, ratios(1, 3, 3, 1)))
        self.same(halved(CHAIKIN, (1, ratios(4, 4)), 1), (2, ratios(1, 3, 4, 4, 3, 1)))
        self.same(halved(ratios(1, 2), (-3, ratios(5)), 2), (-12, ratios(5, 10, 10, 20)))
        self.same(halved(UNEVEN, (0, ratios(1)), 2), (0, ratios(1, 2, 5, 4, 9, 6, 9)))

    def test_not_at_all(self):
        self.same(halved(CHAIKIN, (5, ratios(1, 2)), 0), (5, ratios(1, 2)))
        self.same(halved(CHAIKIN, (5, ratios(0, 0, 1, 0, 2, 0)), 0), (7, ratios(1, 0, 2)))
        self.same(halved(CHAIKIN, (-999, ratios(0)), 0), (0, ()))
        self.same(halved(CHAIKIN, (998, ratios(0, 0, 0, 3)), 0), (1001, ratios(3)))

    def test_zeros_only(self):
        for mask in some_masks(321):
            for many in range(5):
                for length in (0, 1, 40):
                    for start in (-999, 0, 999):
                        self.same(halved(mask, (start, ratios(*[0] * length)), many), (0, ()))

    def test_place_by_place(self):
        for mask in some_masks(322):
            for sequence in some_sequences(323):
                for many in (0, 1, 2) if len(sequence[1]) > 30 else range(5):
                    due = place_by_place(mask, sequence, many)
                    found = halved(mask, sequence, many)
                    self.assertEqual((type(found), len(found), type(found[0])), (tuple, 2, int))
                    if not due:
                        self.same(found, (0, ()))
                        continue
                    low, high = min(due), max(due)
                    self.same(found, (low, ratios(*[due.get(i, 0) for i in range(low, high + 1)])))

    def test_longer_and_further_off(self):
        start, numbers = halved(LONG, (-999, ratios(*[1] * 40)), 4)
        self.assertEqual(start, -999 * 16)
        self.assertEqual(len(numbers), 39 * 16 + 9 * 15 + 1)
        start, numbers = halved(CHAIKIN, (999, ratios(1)), 4)
        self.assertEqual((start, len(numbers)), (999 * 16, 3 * 15 + 1))

    def test_step_by_step(self):
        for mask in some_masks(324):
            sequence = (-3, ratios(1, 0, "-2/3"))
            once = halved(mask, sequence, 1)
            self.same(halved(mask, once, 1), halved(mask, sequence, 2))

    def test_wrong(self):
        for mask, (name, fields) in wrong_mask():
            self.fails(name, halved, mask, (0, ratios(1)), 1, **fields)
            self.fails(name, halved, mask, None, None, **fields)
        for sequence, (name, fields) in wrong_sequence():
            self.fails(name, halved, CHAIKIN, sequence, 1, **fields)
            self.fails(name, halved, CHAIKIN, sequence, None, **fields)
        for many, (name, fields) in wrong_integer("BadNumber", 0, 4):
            self.fails(name, halved, CHAIKIN, (0, ratios(1)), many, **fields)
            self.fails(name, halved, CHAIKIN, (0, ()), many, **fields)


class Quotients(Case):
    def test_even_odd(self):
        self.same(even_odd(CHAIKIN), ratios(1, 1))
        self.same(even_odd(UNEVEN), ratios(4, 2))
        self.same(even_odd(ratios(3, "1/2")), ratios(3, "1/2"))
        for mask in some_masks(331):
            numbers = numbers_of(mask)
            self.same(even_odd(mask), ratios(sum(numbers[::2]), sum(numbers[1::2])))

    def test_sum_order(self):
        self.same(sum_order(CHAIKIN), 3)
        self.same(sum_order(FOUR), 4)
        self.same(sum_order(UNEVEN), 0)
        self.same(sum_order(ZEROS), 1)
        self.same(sum_order(ratios(5, 5)), 1)
        self.same(sum_order(ratios(5, -5)), 0)
        source = Source(332)
        for order in range(10):
            for degree in range(10 - order):
                rest = source.poly(degree)
                if value_of(rest, -1) != 0 and rest[0] != (0, 1) and order + degree > 0:
                    mask = product(*[poly(1, 1)] * order, rest)
                    self.same(sum_order(mask), order)

    def test_shorter(self):
        self.same(shorter(CHAIKIN), ratios("1/4", "1/2", "1/4"))
        self.same(shorter(ratios("5/3", "5/3")), ratios("5/3"))
        self.assertIsNone(shorter(UNEVEN))
        self.assertIsNone(shorter(ratios(1, -1)))
        self.same(shorter(ZEROS), ratios(1, -1, 1, -1, 1, -1, 1, -1, 1))

    def test_shorter_is_the_quotient(self):
        source = Source(333)
        none = 0
        masks = some_masks(334)
        for degree in range(9):
            rest = source.poly(degree)
            masks.append(product(poly(1, 1), rest if rest[0] != (0, 1) else poly(1, 2)))
        for mask in masks:
            found = shorter(mask)
            self.same(found, quotient(mask))
            if found is None:
                none += 1
                self.assertNotEqual(value_of(mask, -1), 0)
            else:
                self.same(product(poly(1, 1), found), mask)
        self.assertTrue(3 < none < len(masks) - 3)

    def test_differences(self):
        # Differences of neighbors of a halved sequence are the differences halved by shorter.
        source = Source(335)
        for mask in (CHAIKIN, FOUR, ratios(1, 3, 2)):
            numbers = source.many(6)
            padded = [Fraction(0)] + numbers + [Fraction(0)]
            # At a place stands what the number there is more than the one before.
            steps = (2, ratios(*[after - one for one, after in zip(padded, padded[1:])]))
            due = place_by_place(mask, (2, ratios(*numbers)), 1)
            found = place_by_place(shorter(mask), steps, 1)
            for i in range(-5, 40):
                self.assertEqual(found.get(i, 0), due.get(i, 0) - due.get(i - 1, 0))

    def test_wrong(self):
        for mask, (name, fields) in wrong_mask():
            for function in (even_odd, sum_order, shorter):
                self.fails(name, function, mask, **fields)
            self.fails(name, poly_halved, mask, poly(1, 2), **fields)
            self.fails(name, poly_halved, mask, None, **fields)
        for item, (name, fields) in WRONG_POLY:
            self.fails(name, poly_halved, CHAIKIN, item, **fields)
            self.fails(name, poly_halved, UNEVEN, item, **fields)


def at_integer(mask, one, i):
    """The sum over all k of mask[i - 2 * k] times the value at k."""
    return sum((number_of(number) * value_of(one, (i - place) // 2)
                for place, number in enumerate(mask) if (i - place) % 2 == 0), Fraction(0))


class PolyHalved(Case):
    def test_ordinary(self):
        self.same(poly_halved(CHAIKIN, poly(0, 1)), poly("-3/4", "1/2"))
        self.same(poly_halved(CHAIKIN, poly(7)), poly(7))
        self.same(poly_halved(CHAIKIN, ()), ())
        self.same(poly_halved(UNEVEN, ()), ())
        self.assertIsNone(poly_halved(UNEVEN, poly(1)))
        self.assertIsNone(poly_halved(CHAIKIN, poly(0, 0, 0, 1)))
        self.same(poly_halved(ratios(1, 1), poly(5)), poly(5))
        self.assertIsNone(poly_halved(ratios(1, 1), poly(0, 1)))

    def test_at_integers(self):
        source = Source(336)
        none = 0
        masks = some_masks(337) + [spline_mask(degree) for degree in range(9)]
        for mask in masks:
            for degree in (-1, 0, 1, 2, 3, 5, 12):
                one = source.poly(degree) if degree >= 0 else ()
                found = poly_halved(mask, one)
                # The values at even integers tell the only polynomial that there could be.
                evens = [(Fraction(2 * k), at_integer(mask, one, 2 * k)) for k in range(-7, 7)]
                due = poly(*interpolated(evens))
                if all(value_of(due, i) == at_integer(mask, one, i) for i in range(-15, 15)):
                    self.same(found, due)
                else:
                    self.assertIsNone(found)
                    none += 1
        self.assertTrue(50 < none < len(masks) * 7 - 50)

    def test_halved_to_0(self):
        mask = ratios(1, 0, -1)
        self.same(poly_halved(mask, poly(7)), ())
        self.assertIsNone(poly_halved(mask, poly(0, 1)))
        self.same(sum_order(mask), 1)

    def test_below_sum_order(self):
        source = Source(338)
        for mask in some_masks(339) + [spline_mask(degree) for degree in range(9)]:
            order = sum_order(mask)
            for degree in range(order):
                self.assertIsNotNone(poly_halved(mask, source.poly(degree)))
            self.assertIsNone(poly_halved(mask, poly(*[0] * order, 1)))

    def test_degree_12(self):
        one = poly(*[1] * 13)
        self.assertIsNone(poly_halved(LONG, one))
        self.assertIsNone(poly_halved(spline_mask(8), one))


class Norm(Case):
    def test_ordinary(self):
        self.same(norm(CHAIKIN, 1), (1, 1))
        self.same(norm(UNEVEN, 1), (4, 1))
        self.same(norm(ratios(-3, 2), 1), (3, 1))
        self.same(norm(ratios("-3/2", "1/2"), 5), (243, 32))
        self.same(norm(FOUR, 1), (5, 4))

    def test_by_halving(self):
        for mask in some_masks(341):
            for many in range(1, 6):
                self.same(norm(mask, many), ratio_of(norm_by_halving(mask, many)))
        for mask in some_masks(342)[:6]:
            start, numbers = halved(mask, (0, ratios(1)), 3)
            sums = [Fraction(0)] * 8
            for at, number in enumerate(numbers_of(numbers)):
                sums[(start + at) % 8] += abs(number)
            self.same(norm(mask, 3), ratio_of(max(sums)))

    def test_wrong(self):
        for mask, (name, fields) in wrong_mask():
            for function in (norm, contracts):
                self.fails(name, function, mask, 2, **fields)
                self.fails(name, function, mask, None, **fields)
        # A quotient of one number is a quotient, but no mask.
        self.fails("BadMask", norm, shorter(ratios("1/2", "1/2")), 1)
        for many, (name, fields) in wrong_integer("BadNumber", 1, 5):
            self.fails(name, norm, CHAIKIN, many, **fields)
            for mask in (CHAIKIN, UNEVEN, ratios(1, 1), ratios(2, 2)):
                self.fails(name, contracts, mask, many, **fields)


class Contracts(Case):
    def test_ordinary(self):
        self.same(contracts(CHAIKIN, 1), 1)
        self.same(contracts(FOUR, 5), 1)
        self.assertIsNone(contracts(UNEVEN, 5))

    def test_none(self):
        # The quotient of (1, 1) is of one number, and its norm is 1.
        self.assertIsNone(contracts(ratios(1, 1), 5))
        # Its quotient has a norm below 1, but the sums are not 1.
        self.assertIsNone(contracts(ratios("1/2", "1/2"), 5))
        self.assertIsNone(contracts(ratios("1/4", "1/2", "1/4"), 5))
        # The sum at even places is 1 alone.
        self.assertIsNone(contracts(ratios(1, "1/2"), 5))
        self.assertIsNone(contracts(ratios("1/2", 1), 5))

    def test_only_behind_more_halvings(self):
        found = {}
        for top in range(-40, 60):
            mask = four_points(ratio_of(Fraction(top, 32)))
            self.same(even_odd(mask), ratios(1, 1))
            norms = [norm_by_halving(shorter(mask), many) < 1 for many in range(1, 6)]
            for most in range(1, 6):
                due = norms.index(True) + 1 if True in norms[:most] else None
                self.same(contracts(mask, most), due)
            found[norms.index(True) + 1 if True in norms else None] = True
        self.assertTrue({1, 2, None} < set(found), found)

    def test_splines(self):
        for degree in range(9):
            self.same(contracts(spline_mask(degree), 5), None if degree == 0 else 1)


class SomeMasks(Case):
    def test_spline_mask(self):
        self.same(spline_mask(0), ratios(1, 1))
        self.same(spline_mask(1), ratios("1/2", 1, "1/2"))
        self.same(spline_mask(2), CHAIKIN)
        for degree in range(9):
            due = [Fraction(comb(degree + 1, k), 2 ** degree) for k in range(degree + 2)]
            self.same(spline_mask(degree), ratios(*due))
            self.same(sum_order(spline_mask(degree)), degree + 1)
        self.assertEqual(len(spline_mask(8)), 10)
        for degree, (name, fields) in wrong_integer("BadNumber", 0, 8):
            self.fails(name, spline_mask, degree, **fields)

    def test_four_points(self):
        self.same(four_points((1, 16)), FOUR)
        self.same(four_points((0, 1)), ratios("1/2", 1, "1/2"))
        self.same(four_points((-1, 2)), ratios("1/2", 0, 0, 1, 0, 0, "1/2"))
        for weight in Source(361).many(20) + [Fraction(HUGE), Fraction(1, HUGE)]:
            found = four_points(ratio_of(weight))
            due = [-weight, 0, Fraction(1, 2) + weight, 1, Fraction(1, 2) + weight, 0, -weight]
            self.same(found, ratios(*(due if weight else due[2:-2])))
            self.same(is_passing(found, len(found) // 2), True)
            self.same(even_odd(found), ratios(1, 1))
        for weight, (name, fields) in WRONG_RATIO:
            self.fails(name, four_points, weight, **fields)

    def test_is_passing(self):
        self.same(is_passing(FOUR, 3), True)
        self.same([is_passing(FOUR, at) for at in range(7)], [False] * 3 + [True] + [False] * 3)
        self.same([is_passing(CHAIKIN, at) for at in range(4)], [False] * 4)
        self.same([is_passing(ratios(1, 1), at) for at in range(2)], [True, True])
        self.same([is_passing(ratios(1, 3, 0, 2), at) for at in range(4)],
                  [True, False, False, False])
        self.same([is_passing(ratios(2, 0, 3, 1), at) for at in range(4)],
                  [False, False, False, True])
        self.same([is_passing(ratios(1, 0, 0, 1), at) for at in range(4)],
                  [True, False, False, True])
        self.same([is_passing(ratios(1, 0, 1), at) for at in range(3)], [False] * 3)
        self.same([is_passing(ratios(2, 1, 2), at) for at in range(3)], [False, True, False])
        self.same(is_passing(ratios(-1, 1, 2), 0), False)

    def test_passing_keeps_numbers(self):
        for mask in some_masks(362) + [FOUR, four_points((2, 7))]:
            for at in range(len(mask)):
                due = place_by_place(mask, (0, ratios(1)), 1)
                kept = {i: due.get(i, 0) for i in range(at % 2, len(mask), 2)}
                self.same(is_passing(mask, at),
                          kept == {i: int(i == at) for i in range(at % 2, len(mask), 2)})

    def test_wrong(self):
        for mask, (name, fields) in wrong_mask():
            self.fails(name, is_passing, mask, 0, **fields)
            self.fails(name, is_passing, mask, None, **fields)
        for mask in some_masks(363):
            for at, (name, fields) in wrong_integer("BadNumber", 0, len(mask) - 1):
                self.fails(name, is_passing, mask, at, **fields)


if __name__ == "__main__":
    unittest.main()

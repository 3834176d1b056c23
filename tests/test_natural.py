"""Point 22: cubics, natural, bending."""

import unittest
from fractions import Fraction

from blendcurves.natural import bending, cubics, natural
from tests.helper import Case, Source, at_fraction, derived, integrated, numbers_of, poly, ratio_of
from tests.helper import ratios, wrong_breaks, wrong_pieces, wrong_tuple

PLACES = ratios(0, 1, 2)
DATA = ratios(0, 1, 0)


def rising(source, many):
    found = [source.number()]
    while len(found) < many:
        found.append(found[-1] + Fraction(source.random.randint(1, 9), source.random.randint(1, 5)))
    return found


def parts(pieces):
    """Pairs ((low, high), polynomial of Fractions)."""
    return [(tuple(numbers_of(interval)), numbers_of(one)) for interval, one in pieces]


class Cubics(Case):
    def test_ordinary(self):
        due = ((ratios(0, 1), poly(0, 0, 3, -2)),)
        self.same(cubics(ratios(0, 1), ratios(0, 1), ratios(0, 0)), due)
        due = ((ratios(0, 1), poly(0, 1)), (ratios(1, 3), poly(0, 1)))
        self.same(cubics(ratios(0, 1, 3), ratios(0, 1, 3), ratios(1, 1, 1)), due)
        due = ((ratios(-1, 1), poly("1/4", "-1/4", "-1/4", "1/4")), (ratios(1, 2), ()))
        self.same(cubics(ratios(-1, 1, 2), ratios(0, 0, 0), ratios(1, 0, 0)), due)

    def test_many(self):
        source = Source(221)
        for many in range(2, 8):
            for _ in range(5):
                places, data, slopes = rising(source, many), source.many(many), source.many(many)
                found = cubics(ratios(*places), ratios(*data), ratios(*slopes))
                self.assertEqual(type(found), tuple)
                self.assertEqual([ends for ends, _ in parts(found)], list(zip(places, places[1:])))
                for at, (ends, one) in enumerate(parts(found)):
                    self.assertLessEqual(len(one), 4)
                    self.same(found[at][1], poly(*one))
                    for x, number, steep in zip(ends, data[at:], slopes[at:]):
                        self.assertEqual(at_fraction(one, x), number)
                        self.assertEqual(at_fraction(derived(one), x), steep)

    def test_of_a_cubic(self):
        one = poly(3, "-1/2", 0, 2)
        places = [Fraction(at * at, 3) for at in range(7)]
        numbers = numbers_of(one)
        found = cubics(ratios(*places), ratios(*[at_fraction(numbers, x) for x in places]),
                       ratios(*[at_fraction(derived(numbers), x) for x in places]))
        self.same(found, tuple((ratios(*ends), one) for ends in zip(places, places[1:])))


class Natural(Case):
    def test_ordinary(self):
        due = ((ratios(0, 1), poly(0, "3/2", 0, "-1/2")),
               (ratios(1, 2), poly(-1, "9/2", -3, "1/2")))
        self.same(natural(PLACES, DATA), due)

    def test_two_places(self):
        self.same(natural(ratios(1, 3), ratios(5, 9)), ((ratios(1, 3), poly(3, 2)),))
        self.same(natural(ratios(1, 3), ratios(0, 0)), ((ratios(1, 3), ()),))

    def test_many(self):
        source = Source(222)
        for many in range(2, 8):
            for _ in range(5):
                places, data = rising(source, many), source.many(many)
                found = natural(ratios(*places), ratios(*data))
                self.assertEqual([ends for ends, _ in parts(found)], list(zip(places, places[1:])))
                seconds = [derived(derived(one)) for _, one in parts(found)]
                self.assertEqual(at_fraction(seconds[0], places[0]), 0)
                self.assertEqual(at_fraction(seconds[-1], places[-1]), 0)
                for at, (ends, one) in enumerate(parts(found)):
                    self.assertLessEqual(len(one), 4)
                    for x, number in zip(ends, data[at:]):
                        self.assertEqual(at_fraction(one, x), number)
                    if at > 0:
                        before = parts(found)[at - 1][1]
                        self.assertEqual(at_fraction(derived(before), ends[0]),
                                         at_fraction(derived(one), ends[0]))
                        self.assertEqual(at_fraction(seconds[at - 1], ends[0]),
                                         at_fraction(seconds[at], ends[0]))

    def test_they_bend_least(self):
        source = Source(223)
        for many in range(2, 8):
            places, data = rising(source, many), source.many(many)
            least = natural(ratios(*places), ratios(*data))
            slopes = [at_fraction(derived(one), ends[0]) for ends, one in parts(least)]
            ends, one = parts(least)[-1]
            slopes.append(at_fraction(derived(one), ends[1]))
            self.same(cubics(ratios(*places), ratios(*data), ratios(*slopes)), least)
            low = Fraction(*bending(least))
            for at in range(many):
                for step in (Fraction(1, 50), Fraction(-1, 50)):
                    others = slopes[:at] + [slopes[at] + step] + slopes[at + 1:]
                    other = cubics(ratios(*places), ratios(*data), ratios(*others))
                    self.assertGreater(Fraction(*bending(other)), low)


class Bending(Case):
    def test_ordinary(self):
        self.same(bending(natural(PLACES, DATA)), (6, 1))
        self.same(bending(((ratios(0, 2), poly(0, 0, 1)),)), (8, 1))
        self.same(bending(((ratios(0, 1), poly(0, 0, 0, 1)),)), (12, 1))
        self.same(bending(((ratios(-3, 5), poly(7, -2)), (ratios(5, 6), ()))), (0, 1))
        # The values and the derivatives need not join.
        self.same(bending(((ratios(0, 1), poly(0, 0, 1)), (ratios(1, 2), poly(9, 9, 2)))), (20, 1))

    def test_many(self):
        source = Source(224)
        for many in range(1, 9):
            for degree in range(-1, 7):
                breaks = rising(source, many + 1)
                ones = [source.poly(degree) for _ in range(many)]
                due = Fraction(0)
                for (low, high), one in zip(zip(breaks, breaks[1:]), ones):
                    second = derived(derived(numbers_of(one)))
                    square = [Fraction(0)] * (2 * len(second))
                    for at, number in enumerate(second):
                        for after, factor in enumerate(second):
                            square[at + after] += number * factor
                    due += integrated(square, low, high)
                pieces = tuple((ratios(*ends), one)
                               for ends, one in zip(zip(breaks, breaks[1:]), ones))
                self.same(bending(pieces), ratio_of(due))

    def test_degree(self):
        self.same(bending(((ratios(0, 1), poly(*[0] * 6, 1)),)), (100, 1))
        for degree in range(7, 13):
            piece = (ratios(0, 1), poly(*[0] * degree, 1))
            self.fails("BadPieces", bending, (piece,), index=0)
            self.fails("BadPieces", bending, ((ratios(-1, 0), ()), piece), index=1)


class Wrong(Case):
    def test_places(self):
        for places, (name, fields) in wrong_breaks(2, 7):
            self.fails(name, natural, places, None, **fields)
            self.fails(name, cubics, places, None, None, **fields)
            self.fails(name, cubics, places, ratios(1, 2), ratios(1, 2), **fields)

    def test_data(self):
        for data, (name, fields) in wrong_tuple("BadData", 3):
            self.fails(name, natural, PLACES, data, **fields)
            self.fails(name, cubics, PLACES, data, None, **fields)
            self.fails(name, cubics, PLACES, data, DATA, **fields)
            self.fails(name, cubics, PLACES, DATA, data, **fields)

    def test_pieces(self):
        for pieces, (name, fields) in wrong_pieces(6):
            self.fails(name, bending, pieces, **fields)


if __name__ == "__main__":
    unittest.main()

"""Points 16 to 18: raised_spline, slope_spline, sums, products, from_pieces, space_size."""

import unittest
from fractions import Fraction

from blendcurves.joining import from_pieces, raised_spline, slope_spline, space_size
from blendcurves.joining import spline_product, spline_sum
from blendcurves.refining import inserted, refined
from tests.helper import Case, Source, at_fraction, breaks_of, derived
from tests.helper import numbers_of, order_of, outcome, parts_of, poly, rank_of, ratios
from tests.helper import spline_at, wrong_breaks, wrong_integer, wrong_pieces, wrong_spline

HAT = (1, ratios(0, 0, 1, 2, 2), ratios(0, 1, 0))
CURVE = (2, ratios(0, 0, 0, 1, 1, 1), ratios(0, 1, 0))
STEPS = (0, ratios(0, 1, 2), ratios(3, -4))
TORN = (2, ratios(0, 0, 0, 1, 1, 1, 2, 2, 2), ratios(0, 1, 2, 5, 0, 1))


def flat(degree, *inner):
    """A spline from 0 to 9 with these inner knots."""
    knots = ratios(*[0] * (degree + 1), *inner, *[9] * (degree + 1))
    return (degree, knots, ratios(*[at * at - 7 for at in range(degree + 1 + len(inner))]))


def splines(degrees=range(5), most=16):
    source = Source(161)
    return [source.spline(degree, inner, most) for degree in degrees for inner in (0, 1, 2, 3)]


def from_end_to_end(source, one, degree, most=16):
    """A spline of a degree with the ends of another one, and some of its inner knots."""
    breaks = breaks_of(one)
    inner = []
    for _ in range(source.random.randint(0, 3)):
        part = Fraction(source.random.randint(1, 7), 8)
        x = source.random.choice(breaks[1:-1] + [breaks[0] + part * (breaks[-1] - breaks[0])])
        room = most - 2 * (degree + 1) - len(inner)
        inner += [x] * min(source.random.randint(1, degree + 1 - inner.count(x)), room) \
            if inner.count(x) <= degree else []
    knots = breaks[:1] * (degree + 1) + sorted(inner) + breaks[-1:] * (degree + 1)
    return (degree, ratios(*knots), ratios(*source.many(len(knots) - degree - 1)))


class Raised(Case):
    def test_ordinary(self):
        self.same(raised_spline(HAT), (2, ratios(0, 0, 0, 1, 1, 2, 2, 2), ratios(0, "1/2", 1, "1/2", 0)))
        self.same(raised_spline(STEPS), (1, ratios(0, 0, 1, 1, 2, 2), ratios(3, 3, -4, -4)))
        self.same(raised_spline((0, ratios(0, 1), ratios(5))), (1, ratios(0, 0, 1, 1), ratios(5, 5)))
        self.same(raised_spline(CURVE)[2], ratios(0, "2/3", "2/3", 0))

    def test_values(self):
        for spline in splines(range(4), 12) + [HAT, CURVE, STEPS, TORN]:
            degree, knots, _ = spline
            due = sorted(numbers_of(knots) + breaks_of(spline))
            if len(due) > 16:
                self.fails("TooMany", raised_spline, spline, most=16)
            else:
                found = raised_spline(spline)
                self.is_spline(found)
                self.same(found[:2], (degree + 1, ratios(*due)))
                self.has_values(found, lambda x: spline_at(spline, x), spline)

    def test_too_large(self):
        for spline in (flat(4), flat(4, 1), flat(4, 1, 2, 3, 4, 5, 6)):
            self.fails("TooLarge", raised_spline, spline, most=4)

    def test_too_many(self):
        self.assertEqual(len(raised_spline(flat(3, 1, 2, 3))[1]), 16)
        self.fails("TooMany", raised_spline, flat(3, 1, 2, 3, 4), most=16)
        self.fails("TooMany", raised_spline, flat(3, 1, 2, 3, 3), most=16)
        self.assertEqual(len(raised_spline(flat(3, 1, 2, 2, 2))[1]), 16)
        self.assertEqual(len(raised_spline(flat(0, *range(1, 7)))[1]), 16)
        self.fails("TooMany", raised_spline, flat(0, *range(1, 8)), most=16)


class Slope(Case):
    def test_ordinary(self):
        self.same(slope_spline(HAT), (0, ratios(0, 1, 2), ratios(1, -1)))
        self.same(slope_spline(CURVE), (1, ratios(0, 0, 1, 1), ratios(2, -2)))
        self.same(slope_spline((1, ratios(0, 0, 1, 1), ratios(5, 5))), (0, ratios(0, 1), ratios(0)))
        torn = (2, ratios(0, 0, 0, 1, 1, 3, 3, 3), ratios(0, 1, 2, 5, 0))
        self.same(slope_spline(torn), (1, ratios(0, 0, 1, 1, 3, 3), ratios(2, 2, 3, -5)))

    def test_values(self):
        source = Source(162)
        for degree in range(1, 5):
            for _ in range(8):
                spline = source.spline(degree, 3)
                full = [x for x in breaks_of(spline)[1:-1]
                        if numbers_of(spline[1]).count(x) > degree]
                if full:
                    self.fails("TooFull", slope_spline, spline)
                else:
                    found = slope_spline(spline)
                    self.is_spline(found)
                    self.same(found[:2], (degree - 1, spline[1][1:-1]))
                    for part, less in zip(parts_of(spline), parts_of(found)):
                        self.assertEqual(part[0], less[0])
                        self.assertEqual(derived(part[1]), less[1])

    def test_full(self):
        self.fails("TooFull", slope_spline, TORN)
        for degree in range(1, 5):
            # It makes no difference that the values join there.
            spline = (degree, flat(degree, *[4] * (degree + 1))[1], ratios(*[1] * (2 * degree + 2)))
            self.fails("TooFull", slope_spline, spline)
            self.assertEqual(slope_spline(flat(degree, *[4] * degree))[0], degree - 1)

    def test_degree_0(self):
        for spline in (STEPS, (0, ratios(0, 1), ratios(5)), flat(0, *range(1, 9))):
            self.fails("BadSpline", slope_spline, spline, index=0)
        self.fails("BadSpline", slope_spline, (0, ratios(0, 1)), index=None)


class Sum(Case):
    def test_ordinary(self):
        self.same(spline_sum(HAT, HAT), (1, HAT[1], ratios(0, 2, 0)))
        line = (1, ratios(0, 0, 2, 2), ratios(1, 3))
        self.same(spline_sum(HAT, line), (1, HAT[1], ratios(1, 3, 3)))
        self.same(spline_sum(line, HAT), (1, HAT[1], ratios(1, 3, 3)))
        later = (1, ratios(0, 0, "3/2", 2, 2), ratios(0, 3, 0))
        self.same(spline_sum(HAT, later), (1, ratios(0, 0, 1, "3/2", 2, 2), ratios(0, 3, "7/2", 0)))

    def test_opposite(self):
        # Knots stay, although the sum would need none.
        less = (1, HAT[1], ratios(0, -1, 0))
        self.same(spline_sum(HAT, less), (1, HAT[1], ratios(0, 0, 0)))

    def test_values(self):
        source = Source(163)
        for _ in range(3):
            for one in splines(range(5), 13):
                other = from_end_to_end(source, one, one[0], 13)
                knots = [numbers_of(spline[1]) for spline in (one, other)]
                due = [x for x in breaks_of(one, other)
                       for _ in range(max(numbers.count(x) for numbers in knots))]
                if len(due) > 16:
                    self.fails("TooMany", spline_sum, one, other, most=16)
                    continue
                found = spline_sum(one, other)
                self.is_spline(found)
                self.same(found[:2], (one[0], ratios(*due)))
                self.has_values(found, lambda x: spline_at(one, x) + spline_at(other, x), one, other)
                self.same(found, spline_sum(other, one))

    def test_other_degree(self):
        for one in (HAT, CURVE, STEPS):
            for degree in range(5):
                knots = [one[1][0]] * (degree + 1) + [one[1][-1]] * (degree + 1)
                other = (degree, tuple(knots), ratios(*range(degree + 1)))
                if degree == one[0]:
                    self.assertEqual(spline_sum(one, other)[0], degree)
                else:
                    self.fails("BadSpline", spline_sum, one, other, index=0)
        # Another degree is told, and not that the ends are other ones, too.
        self.fails("BadSpline", spline_sum, HAT, flat(2), index=0)

    def test_other_ends(self):
        for ends in [(0, 1), (1, 2), (0, 3), (-1, 2), (-1, 3), (5, 6)]:
            other = (1, ratios(ends[0], *ends, ends[1]), ratios(1, 2))
            self.fails("BadSpline", spline_sum, HAT, other, index=1)
            self.fails("BadSpline", spline_product, HAT, other, index=1)
            # They come ahead of the row, as its knots do.
            self.fails("BadSpline", spline_sum, HAT, other[:2] + (None,), index=1)

    def test_too_many(self):
        one, other = flat(1, *range(1, 7)), flat(1, *[Fraction(at, 2) for at in range(1, 13)])
        self.assertEqual(len(spline_sum(one, other)[1]), 16)
        later = flat(1, "1/3", "17/2")
        self.fails("TooMany", spline_sum, other, later, most=16)
        self.fails("BadSpline", spline_sum, other, later[:2] + ((),), index=2)


class Product(Case):
    def test_ordinary(self):
        self.same(spline_product(HAT, HAT),
                  (2, ratios(0, 0, 0, 1, 1, 2, 2, 2), ratios(0, 0, 1, 0, 0)))
        line = (1, ratios(0, 0, 2, 2), ratios(1, 3))
        self.same(spline_product(line, line), (2, ratios(0, 0, 0, 2, 2, 2), ratios(1, 3, 9)))
        self.same(spline_product(STEPS, HAT),
                  (1, ratios(0, 0, 1, 1, 2, 2), ratios(0, 3, -4, 0)))
        self.same(spline_product(STEPS, STEPS), (0, STEPS[1], ratios(9, 16)))

    def test_how_often_knots_stand(self):
        for one, other, due in [
            (flat(2, 4), flat(1), [4, 4]), (flat(2, 4), flat(1, 4), [4, 4, 4]),
            (flat(2, 4), flat(1, 4, 4), [4] * 4), (flat(2, 4, 4, 4), flat(1), [4] * 4),
            (flat(2, 4), flat(2, 4), [4] * 3), (flat(2, 4), flat(2, 4, 4), [4] * 4),
            (flat(4, 4), flat(0), [4]), (flat(4, 4), flat(0, 4), [4] * 5), (flat(3), flat(1), []),
            (flat(3, 4, 5, 5), flat(0), [4, 5, 5]), (flat(1, 1), flat(2, 8), [1, 1, 1, 8, 8]),
        ]:
            degree = one[0] + other[0]
            knots = ratios(*[0] * (degree + 1), *due, *[9] * (degree + 1))
            for found in (spline_product(one, other), spline_product(other, one)):
                self.same(found[:2], (degree, knots))

    def test_values(self):
        source = Source(164)
        for degree in range(5):
            for one in splines([degree], 13):
                for more in range(5 - degree):
                    other = from_end_to_end(source, one, more, 10)
                    knots = [numbers_of(spline[1]) for spline in (one, other)]
                    due = []
                    for x in breaks_of(one, other):
                        gaps = [spline[0] - numbers.count(x)
                                for spline, numbers in zip((one, other), knots) if x in numbers]
                        due += [x] * (degree + more - min(gaps))
                    if len(due) > 16:
                        self.fails("TooMany", spline_product, one, other, most=16)
                        continue
                    found = spline_product(one, other)
                    self.is_spline(found)
                    self.same(found[:2], (degree + more, ratios(*due)))
                    self.has_values(found, lambda x: spline_at(one, x) * spline_at(other, x),
                                    one, other)
                    self.same(found, spline_product(other, one))

    def test_as_seldom_as_can_be(self):
        # With long numbers in the rows nothing is smooth, or 0, by chance.
        source = Source(165)

        def rough(spline):
            row = [source.random.randint(10 ** 9, 10 ** 12) for _ in spline[2]]
            return spline[:2] + (ratios(*row),)
        many = 0
        for one in splines(range(3), 9):
            for degree in (0, 1, 2):
                one, other = rough(one), rough(from_end_to_end(source, one, degree, 7))
                if outcome(spline_product, (one, other)) is None:
                    found = spline_product(one, other)
                    pieces = tuple((ratios(*ends), poly(*part)) for ends, part in parts_of(found))
                    self.same(from_pieces(found[0], pieces), found)
                    many += 1
        self.assertGreater(many, 20)

    def test_too_large(self):
        for one in range(5):
            for other in range(5):
                if one + other > 4:
                    self.fails("TooLarge", spline_product, flat(one), flat(other), most=4)
                else:
                    self.assertEqual(spline_product(flat(one), flat(other))[0], one + other)
        # It comes ahead of TooMany and behind the ends.
        self.fails("TooLarge", spline_product, flat(3, *range(1, 9)), flat(2), most=4)
        self.fails("BadSpline", spline_product, flat(3), CURVE, index=1)

    def test_too_many(self):
        self.assertEqual(len(spline_product(flat(1, 1, 2, 3, 4, 5), flat(1))[1]), 16)
        self.fails("TooMany", spline_product, flat(1, 1, 2, 3, 4, 5, 6), flat(1), most=16)
        self.fails("TooMany", spline_product, flat(1, 1, 2, 3), flat(1, 4, 5, 6), most=16)
        self.assertEqual(len(spline_product(flat(0, *range(1, 9)), flat(0, 1, 2))[1]), 10)


class Pieces(Case):
    def test_ordinary(self):
        tent = ((ratios(0, 1), poly(0, 1)), (ratios(1, 2), poly(2, -1)))
        self.same(from_pieces(1, tent), HAT)
        self.same(from_pieces(2, tent), raised_spline(HAT))
        self.same(from_pieces(1, ((ratios(0, 1), poly(0, 1)), (ratios(1, 2), poly(0, 1)))),
                  (1, ratios(0, 0, 2, 2), ratios(0, 2)))
        self.same(from_pieces(0, ((ratios(0, 1), poly(3)), (ratios(1, 2), poly(-4)))), STEPS)
        self.same(from_pieces(1, ((ratios(0, 1), ()), (ratios(1, 2), poly(1)))),
                  (1, ratios(0, 0, 1, 1, 2, 2), ratios(0, 0, 1, 1)))
        self.same(from_pieces(4, ((ratios(0, 1), ()),)), (4, ratios(*[0] * 5, *[1] * 5), ratios(*[0] * 5)))

    def test_each_order(self):
        # The second piece is more by a power of (x - 1): as smooth as that power.
        first = poly(3, -1, "1/2")
        for degree in range(2, 5):
            for order in range(-1, degree + 1):
                power = [Fraction(0)] * (degree + 1)
                if order < degree:
                    power[0] = Fraction(2)
                    for _ in range(order + 1):
                        power = [a - b for a, b in zip([0] + power, power)]
                second = [a + b for a, b in zip(numbers_of(first) + [0, 0], power)]
                found = from_pieces(degree, ((ratios(0, 1), first), (ratios(1, 3), poly(*second))))
                self.is_spline(found)
                self.same(found[1], ratios(*[0] * (degree + 1), *[1] * (degree - order),
                                           *[3] * (degree + 1)))

    def test_of_splines(self):
        source = Source(166)
        for degree in range(5):
            for _ in range(12):
                spline = source.spline(degree, 3)
                row = [number * source.random.randint(0, 2) for number in numbers_of(spline[2])]
                spline = (degree, spline[1], ratios(*row))
                parts = parts_of(spline)
                due = [parts[0][0][0]] * (degree + 1)
                for (_, one), ((x, _), after) in zip(parts, parts[1:]):
                    due += [x] * (degree - order_of(one, after, x, degree))
                due += [parts[-1][0][1]] * (degree + 1)
                found = from_pieces(degree, tuple((ratios(*ends), poly(*numbers))
                                                  for ends, numbers in parts))
                self.is_spline(found)
                self.same(found[:2], (degree, ratios(*due)))
                self.has_values(found, lambda x: spline_at(spline, x), spline)
                self.same(refined(found, spline[1]), spline)

    def test_no_break_at_all(self):
        curve = poly(1, -2, 0, 5)
        ends = [(0, 1), (1, "3/2"), ("3/2", 4), (4, 5), (5, 6), (6, 7), (7, 8), (8, 9)]
        found = from_pieces(3, tuple((ratios(*pair), curve) for pair in ends))
        self.same(found, from_pieces(3, ((ratios(0, 9), curve),)))
        self.same(found[1], ratios(0, 0, 0, 0, 9, 9, 9, 9))

    def test_too_many(self):
        def jumps(many):
            return tuple((ratios(at, at + 1), poly(*[at + 1] * 5)) for at in range(many))
        self.assertEqual(len(from_pieces(4, jumps(2))[1]), 15)
        self.fails("TooMany", from_pieces, 4, jumps(3), most=16)
        self.fails("TooMany", from_pieces, 4, jumps(8), most=16)
        bent = tuple((ratios(at, at + 1), poly(-at * at - at, 2 * at + 1)) for at in range(8))
        self.assertEqual(len(from_pieces(1, bent)[1]), 4 + 7)
        self.assertEqual(len(from_pieces(2, bent[:6])[1]), 16)
        self.fails("TooMany", from_pieces, 2, bent[:7], most=16)

    def test_wrong(self):
        for degree in range(5):
            for value, (name, fields) in wrong_pieces(degree):
                self.fails(name, from_pieces, degree, value, **fields)
        for degree, (name, fields) in wrong_integer("BadDegree", 0, 4):
            self.fails(name, from_pieces, degree, None, **fields)


def joined_size(breaks, degree, order):
    """How many functions it takes, by the conditions at the inner breaks."""
    rows = []
    many = degree + 1
    for at, x in enumerate(breaks[1:-1]):
        for number in range(order + 1):
            row = [Fraction(0)] * (many * (len(breaks) - 1))
            for power in range(many):
                numbers = [Fraction(int(power == k)) for k in range(many)]
                for _ in range(number):
                    numbers = derived(numbers)
                row[at * many + power] = at_fraction(numbers, x)
                row[(at + 1) * many + power] = -at_fraction(numbers, x)
            rows.append(row)
    return many * (len(breaks) - 1) - rank_of(rows)


class SpaceSize(Case):
    def test_ordinary(self):
        self.same(space_size(ratios(0, 1, 2), 3, 1), 6)
        self.same(space_size(ratios(0, 1), 3, 1), 4)
        self.same(space_size(ratios(0, 1, 2), 0, -1), 2)
        self.same(space_size(ratios(0, 1, 2), 0, 0), 1)
        self.same(space_size(ratios(0, 1, 2, 3, 5, 8), 4, -1), 25)
        self.same(space_size(ratios(0, 1, 2, 3, 5, 8), 4, 4), 5)

    def test_all(self):
        breaks = ratios(-2, "-1/2", 0, 3, 4, "9/2")
        for many in range(2, 7):
            for degree in range(5):
                for order in range(-1, degree + 1):
                    due = joined_size(numbers_of(breaks[:many]), degree, order)
                    self.same(space_size(breaks[:many], degree, order), due)

    def test_wrong(self):
        for breaks, (name, fields) in wrong_breaks(2, 6):
            self.fails(name, space_size, breaks, 3, 1, **fields)
            self.fails(name, space_size, breaks, None, 9, **fields)
        for degree in range(5):
            for order in (-2, degree + 1, True, False, None, "0", (0, 1)):
                self.fails("BadNumber", space_size, ratios(0, 1), degree, order)
        for degree, (name, fields) in wrong_integer("BadDegree", 0, 4):
            self.fails(name, space_size, ratios(0, 1, 2), degree, -1, **fields)


class Wrong(Case):
    def test_splines(self):
        for spline in (HAT, TORN):
            for value, (name, fields) in wrong_spline(spline):
                self.fails(name, raised_spline, value, **fields)
                for function in (spline_sum, spline_product):
                    self.fails(name, function, value, spline, **fields)
                    self.fails(name, function, value, None, **fields)
                    self.fails(name, function, spline, value, **fields)
            for value, (name, fields) in wrong_spline(spline, (0,)):
                self.fails(name, slope_spline, value, **fields)
            others = [degree for degree in range(5) if degree != spline[0]]
            for value, (name, fields) in wrong_spline(spline, others):
                self.fails(name, spline_sum, spline, value, **fields)

    def test_inserting_keeps_sums(self):
        more = inserted(HAT, (1, 2))
        self.same(spline_sum(more, HAT), inserted(spline_sum(HAT, HAT), (1, 2)))


if __name__ == "__main__":
    unittest.main()

"""Point 39: what is never below 0, rising, falling, convex."""

import unittest
from fractions import Fraction

from blendcurves.joining import from_pieces
from blendcurves.shapes import is_convex, is_falling, is_never_below, is_rising
from tests.helper import WRONG_INTERVAL, WRONG_POLY, Case, Source, breaks_of, numbers_of
from tests.helper import poly, product, ratios, spline_at, value_of, with_roots, within
from tests.helper import wrong_spline

UNIT = ratios(0, 1)
HATS = ratios(0, 0, 1, 2, 2)
SPLINE = (2, ratios(0, 0, 0, 1, 2, 2, 2), ratios(1, "1/2", -3, 0))
FUNCTIONS = (is_rising, is_falling, is_convex)


def hat(*numbers):
    return (1, HATS, ratios(*numbers))


def steps(*numbers):
    """A spline of degree 0 with these values."""
    return (0, ratios(*range(len(numbers) + 1)), ratios(*numbers))


def opposite(spline):
    return (spline[0], spline[1], tuple((-top, low) for top, low in spline[2]))


def backward(spline):
    """The spline whose value at -x is that at x, but at its jumps."""
    degree, knots, row = spline
    return (degree, tuple((-top, low) for top, low in knots[::-1]), row[::-1])


def shapes(spline):
    return tuple(function(spline) for function in FUNCTIONS)


def samples(spline, many=12):
    """Places and values, at the knots and close to them, and between them."""
    breaks = breaks_of(spline)
    places = list(breaks)
    for low, high in zip(breaks, breaks[1:]):
        near = (high - low) / 10 ** 6
        places += within(low, high, many) + [low + near, high - near]
    return [(x, spline_at(spline, x)) for x in sorted(places)]


def seen_shapes(spline):
    """The shapes that the values at many places do not rule out."""
    pairs = samples(spline)
    values = [y for _, y in pairs]
    slopes = [(b - a) / (y - x) for (x, a), (y, b) in zip(pairs, pairs[1:])]
    return (all(a <= b for a, b in zip(values, values[1:])),
            all(a >= b for a, b in zip(values, values[1:])),
            all(a <= b for a, b in zip(slopes, slopes[1:])) and not has_jumps(spline))


def has_jumps(spline):
    """Tell whether the values close to an inner knot are far from those at it."""
    breaks = breaks_of(spline)
    tiny = Fraction(1, 10 ** 12)
    return any(abs(spline_at(spline, x) - spline_at(spline, x - tiny)) > Fraction(1, 10 ** 6)
               for x in breaks[1:-1])


class NeverBelow(Case):
    def test_ordinary(self):
        self.same(is_never_below(poly("1/4", -1, 1), UNIT), True)
        self.same(is_never_below(poly("1/5", -1, 1), UNIT), False)
        self.same(is_never_below(poly("1/3", -1, 1), UNIT), True)
        self.same(is_never_below(poly(0, 1), UNIT), True)
        self.same(is_never_below(poly(0, -1), UNIT), False)
        self.same(is_never_below(poly(1, -1), UNIT), True)
        self.same(is_never_below(poly(-1, 1), UNIT), False)
        self.same(is_never_below(poly(-1, 1), ratios(1, 2)), True)

    def test_constants(self):
        self.same(is_never_below((), UNIT), True)
        self.same(is_never_below(poly(3), UNIT), True)
        self.same(is_never_below(poly("-1/9"), UNIT), False)

    def test_roots_at_ends(self):
        for many in range(1, 7):
            for more in range(7):
                one = product(poly(0, 1), *[poly(0, 1)] * (many - 1), *[poly(1, -1)] * more)
                self.same(is_never_below(one, UNIT), True)
                self.same(is_never_below(product(one, poly(-1)), UNIT), False)
                self.same(is_never_below(one, ratios(0, "1/2")), True)
                self.same(is_never_below(one, ratios("-1/2", 1)), many % 2 == 0)
                self.same(is_never_below(one, ratios(0, "3/2")), more % 2 == 0)

    def test_repeated_roots_inside(self):
        for many in range(1, 7):
            one = product(*[poly("-1/2", 1)] * many)
            self.same(is_never_below(one, UNIT), many % 2 == 0)
            self.same(is_never_below(one, ratios("1/2", 1)), True)
            self.same(is_never_below(one, ratios(0, "1/2")), many % 2 == 0)
            two = product(one, *[poly("-1/3", 1)] * (8 - many))
            self.same(is_never_below(two, UNIT), many % 2 == 0)
            # A root of an odd number of times at 1/3, and one at 1/2.
            self.same(is_never_below(two, ratios("1/3", "1/2")), many % 2 == 0)
        self.same(is_never_below(product(poly("-1/2", 1), poly("-1/3", 1)), ratios("1/3", "1/2")), False)
        self.same(is_never_below(product(poly("1/2", -1), poly("-1/3", 1)), ratios("1/3", "1/2")), True)

    def test_roots_that_are_no_ratios(self):
        two = poly(-2, 0, 1)
        self.same(is_never_below(product(two, two), ratios(0, 3)), True)
        self.same(is_never_below(product(two, two, two), ratios(0, 3)), False)
        self.same(is_never_below(product(two, two, poly(-1)), ratios(0, 3)), False)
        self.same(is_never_below(two, ratios("7/5", 3)), False)
        self.same(is_never_below(two, ratios("3/2", 3)), True)
        # Beside the root by a little, and just at it.
        self.same(is_never_below(poly(-1, 10 ** 30), ratios(0, 1)), False)
        self.same(is_never_below(poly(-1, 10 ** 30), (((1, 10 ** 30)), (1, 1))), True)

    def test_many(self):
        source = Source(391)
        answers = {}
        for _ in range(250):
            roots = {Fraction(source.random.randint(-4, 6), 2): source.random.randint(1, 4)
                     for _ in range(source.random.randint(0, 4))}
            sign = source.random.choice([1, -1, 1])
            low = Fraction(source.random.randint(-5, 5), 2)
            high = low + Fraction(source.random.randint(1, 6), 2)
            listed = [root for root, many in roots.items() for _ in range(many)][:10]
            one = product(with_roots(*listed), poly(sign), source.random.choice([poly(1), poly(1, 1, 1)]))
            # Between two neighbors of the roots and the ends the sign is one.
            inside = sorted({low, high} | {root for root in roots if low < root < high})
            due = all(value_of(one, (a + b) / 2) > 0 for a, b in zip(inside, inside[1:]))
            self.same(is_never_below(one, ratios(low, high)), due)
            answers[due] = answers.get(due, 0) + 1
        self.assertGreater(min(answers.values()), 50)

    def test_wrong(self):
        for item, (name, fields) in WRONG_POLY:
            self.fails(name, is_never_below, item, UNIT, **fields)
            self.fails(name, is_never_below, item, None, **fields)
        for item, (name, fields) in WRONG_INTERVAL:
            for one in ((), poly(1), poly(0, 1)):
                self.fails(name, is_never_below, one, item, **fields)


class Splines(Case):
    def test_ordinary(self):
        self.same(shapes(hat(0, 1, 0)), (False, False, False))
        self.same(shapes(hat(1, 0, 1)), (False, False, True))
        self.same(shapes(hat(0, 1, 2)), (True, False, True))
        self.same(shapes(hat(0, 1, 3)), (True, False, True))
        self.same(shapes(hat(0, 2, 3)), (True, False, False))
        self.same(shapes(hat(3, 1, 0)), (False, True, True))
        self.same(shapes(hat(3, 2, 0)), (False, True, False))
        self.same(shapes(hat(0, 0, 1)), (True, False, True))

    def test_constant(self):
        for degree in range(5):
            for number in (0, 5, "-2/3"):
                knots = ratios(*[0] * (degree + 1), 1, *[3] * (degree + 1))
                spline = (degree, knots, ratios(*[number] * (degree + 2)))
                self.same(shapes(spline), (True, True, True))
                torn = (degree, ratios(*[at for at in range(3) for _ in range(degree + 1)]),
                        ratios(*[number] * (2 * degree + 2)))
                self.same(shapes(torn), (True, True, True))

    def test_jumps(self):
        self.same(shapes(steps(1, 2, 3)), (True, False, False))
        self.same(shapes(steps(3, 2, 2)), (False, True, False))
        self.same(shapes(steps(1, 2, 1)), (False, False, False))
        self.same(shapes(steps(5, 5)), (True, True, True))
        self.same(shapes(steps(7)), (True, True, True))
        twice = ratios(0, 0, 1, 1, 2, 2)
        self.same(shapes((1, twice, ratios(0, 1, 2, 3))), (True, False, False))
        self.same(shapes((1, twice, ratios(0, 1, 1, 3))), (True, False, True))
        self.same(shapes((1, twice, ratios(0, 1, "1/2", 3))), (False, False, False))
        self.same(shapes((1, twice, ratios(3, 2, "1/2", 0))), (False, True, False))
        self.same(shapes((1, twice, ratios(3, 1, 1, 0))), (False, True, True))
        self.same(shapes((1, twice, ratios(3, 1, 2, 0))), (False, False, False))
        self.same(shapes((1, twice, ratios(0, 0, 1, 1))), (True, False, False))

    def test_bends(self):
        # Pieces of which each one is convex alone, whose slopes at 1 are left and right.
        for left, right, due in [(1, 2, True), (2, 1, False), (1, 1, True), (-1, 1, True), (1, -1, False)]:
            one = ((ratios(0, 1), poly(0, left)), (ratios(1, 2), poly(left - right, right)))
            self.same(is_convex(from_pieces(1, one)), due)
            curved = ((ratios(0, 1), poly(0, left - 2, 1)),
                      (ratios(1, 2), poly(left - right, right - 2, 1)))
            self.same(is_convex(from_pieces(2, curved)), due)

    def test_inside_a_piece(self):
        # x * x * x, and others whose control numbers fall although they rise.
        for degree, one, due in [
            (3, poly(0, 0, 0, 1), (True, False, False)), (3, poly(0, 1, 0, 1), (True, False, False)),
            (2, poly(0, 0, 1), (False, False, True)), (2, poly(0, 0, -1), (False, False, False)),
            (4, poly(0, 0, 0, 0, 1), (False, False, True)), (4, poly(0, 0, 6, 0, 1), (False, False, True)),
            (4, poly(0, 1, 6, -4, 1), (False, False, True)), (4, poly(0, 0, -1, 0, 1), (False,) * 3),
            # At 1/9 the derivative 3 * x * x - 2/3 * x + 1/27 is 0, which is the least it is.
            (3, poly(0, "1/26", "-1/3", 1), (True, False, False)),
            (3, poly(0, "1/27", "-1/3", 1), (True, False, False)),
            (3, poly(0, "1/28", "-1/3", 1), (False, False, False)),
            (1, poly(2, 1), (True, False, True)), (1, poly(2, -1), (False, True, True)),
        ]:
            self.same(shapes(from_pieces(degree, ((ratios(-1, 1), one),))), due)

    def test_control_numbers_do_not_tell(self):
        # The row falls once, the values do not: on [0, 1] 1 - 3 * t + 3 * t * t is above 0.
        spline = (3, ratios(0, 0, 0, 0, 1, 1, 1, 1), ratios(0, "1/3", "1/6", "1/2"))
        numbers = [3 * Fraction(1, 3), 3 * Fraction(-1, 6), 3 * Fraction(1, 3)]
        self.assertGreater(numbers[0] * numbers[2], numbers[1] ** 2)
        self.same(shapes(spline), (True, False, False))

    def test_many(self):
        source = Source(392)
        found = {}
        for degree in range(5):
            for inner in (0, 1, 3):
                for kind in range(6):
                    for _ in range(4):
                        spline = source.spline(degree, inner)
                        row = sorted(numbers_of(spline[2]))
                        if kind == 1:
                            spline = (degree, spline[1], ratios(*row))
                        if kind == 2:
                            spline = (degree, spline[1], ratios(*row[::-1]))
                        if kind == 3 and degree > 0:
                            spline = self.convex_one(source, degree, inner)
                        if kind == 4 and degree > 0:
                            spline = opposite(self.convex_one(source, degree, inner))
                        if kind == 5:
                            row = [item if at % 3 else item - Fraction(1, 30) for at, item in enumerate(row)]
                            spline = (degree, spline[1], ratios(*row))
                        due = seen_shapes(spline)
                        self.same(shapes(spline), due)
                        self.same((is_falling(opposite(spline)), is_rising(opposite(spline))), due[:2])
                        self.same(is_falling(backward(spline)), due[0])
                        self.same(is_convex(backward(spline)), due[2])
                        found[due] = found.get(due, 0) + 1
        for due in [(True, False, False), (False, True, False), (False, False, True), (False,) * 3,
                    (True, False, True), (False, True, True)]:
            self.assertIn(due, found)

    def convex_one(self, source, degree, inner):
        """A spline that is convex because its pieces and its bends at knots are."""
        low, slope, value = source.number(), source.number(), source.number()
        pieces = []
        # Each inner knot stands there up to degree times, and there are at most 16.
        for _ in range(min(inner, 1 if degree == 4 else 2) + 1):
            wide, curve = Fraction(source.random.randint(1, 5), 2), abs(source.number())
            curve = curve if degree > 1 else Fraction(0)
            # value + slope * (x - low) + curve * (x - low) * (x - low)
            pieces.append((ratios(low, low + wide),
                           poly(value - slope * low + curve * low * low, slope - 2 * curve * low, curve)))
            value += slope * wide + curve * wide * wide
            slope += 2 * curve * wide + Fraction(source.random.randint(0, 2))
            low += wide
        return from_pieces(degree, tuple(pieces))

    def test_wrong(self):
        for item, (name, fields) in wrong_spline(SPLINE):
            for function in FUNCTIONS:
                self.fails(name, function, item, **fields)


if __name__ == "__main__":
    unittest.main()

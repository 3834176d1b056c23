"""Points 23 and 24: weighted points, conics, equations."""

import unittest
from fractions import Fraction
from math import gcd

from blendcurves.conics import conic_kind, conic_point, conic_split, equation, equation_kind
from blendcurves.conics import equation_value, through_five
from tests.helper import HUGE, NOT_TUPLES, ODD_ITEMS, WRONG_RATIO, Case, Source, number_of
from tests.helper import numbers_of, ratio_of, ratios, wrong_above_zero, wrong_equation
from tests.helper import wrong_points

CIRCLE = ((ratios(1, 0), ratios(1, 1), ratios(0, 1)), ratios(1, 1, 2))
PARABOLA = ((ratios(0, 0), ratios(1, 0), ratios(1, 1)), ratios(1, 1, 1))
# What is divided by is 0 at -1 and at 2.
HYPERBOLA = ((ratios(0, 0), ratios(1, 0), ratios(1, 1)), ratios(1, "5/4", 1))
EQUATION = (1, 0, 1, 0, 0, -1)


def points(*pairs):
    return tuple(ratios(*pair) for pair in pairs)


def homogeneous(corners, weights, t):
    """The weighted sums of x, of y, and of the weights, with Fractions."""
    u, v, w = numbers_of(weights)
    parts = [u * (1 - t) * (1 - t), 2 * v * t * (1 - t), w * t * t]
    places = [numbers_of(corner) for corner in corners]
    return [sum(part * place[at] for part, place in zip(parts, places)) for at in (0, 1)] \
        + [sum(parts)]


def value(numbers, x, y):
    a, b, c, d, e, f = numbers
    return a * x * x + b * x * y + c * y * y + d * x + e * y + f


def some(source):
    """Points not in line and weights."""
    while True:
        corners = tuple(ratios(*source.many(2)) for _ in range(3))
        (a, b), (c, d), (e, f) = [numbers_of(corner) for corner in corners]
        if (c - a) * (f - b) != (e - a) * (d - b):
            return corners, ratios(*[abs(source.number()) + Fraction(1, 3) for _ in range(3)])


class ConicPoint(Case):
    def test_ordinary(self):
        self.same(conic_point(*CIRCLE, (1, 2)), ratios("3/5", "4/5"))
        self.same(conic_point(*CIRCLE, (0, 1)), ratios(1, 0))
        self.same(conic_point(*CIRCLE, (1, 1)), ratios(0, 1))
        self.same(conic_point(*CIRCLE, (-1, 1)), ratios(0, -1))
        self.same(conic_point(*PARABOLA, (1, 2)), ratios("3/4", "1/4"))
        self.same(conic_point(*PARABOLA, (3, 1)), ratios(-3, 9))

    def test_divided_by_0(self):
        for t in ((-1, 1), (2, 1)):
            self.assertIsNone(conic_point(*HYPERBOLA, t))
        self.assertIsNone(conic_point(PARABOLA[0], ratios(1, 2, 4), (-1, 1)))
        self.assertIsNone(conic_point(PARABOLA[0], ratios(4, 2, 1), (2, 1)))
        for t in ("-99/100", "1999/1000", 3, "1/2"):
            self.assertIsNotNone(conic_point(*HYPERBOLA, ratio_of(t)))

    def test_many(self):
        source = Source(231)
        for _ in range(60):
            corners, weights = some(source)
            for t in [Fraction(0), Fraction(1), Fraction(1, 2)] + source.many(4):
                x, y, weight = homogeneous(corners, weights, t)
                found = conic_point(corners, weights, ratio_of(t))
                if weight == 0:
                    self.assertIsNone(found)
                else:
                    self.same(found, ratios(x / weight, y / weight))

    def test_points_in_line(self):
        self.same(conic_point(points((0, 0), (1, 1), (2, 2)), ratios(1, 1, 1), (1, 4)),
                  ratios("1/2", "1/2"))
        self.same(conic_point(points((3, 5), (3, 5), (3, 5)), ratios(1, 2, 3), (7, 4)), ratios(3, 5))


class ConicSplit(Case):
    def test_ordinary(self):
        left, right = conic_split(*CIRCLE, (1, 2))
        self.same(left, (points((1, 0), (1, "1/2"), ("3/5", "4/5")), ratios(1, 1, "5/4")))
        self.same(right, (points(("3/5", "4/5"), ("1/3", 1), (0, 1)), ratios("5/4", "3/2", 2)))

    def test_parts(self):
        source = Source(232)
        for _ in range(30):
            corners, weights = some(source)
            t = Fraction(source.random.randint(1, 9), 10)
            for part, low, high in zip(conic_split(corners, weights, ratio_of(t)), (0, t), (t, 1)):
                self.assertEqual([type(part), len(part), len(part[0]), len(part[1])],
                                 [tuple, 2, 3, 3])
                for s in [Fraction(0), Fraction(1), Fraction(1, 3)] + source.many(3):
                    self.same(homogeneous(*part, s), homogeneous(corners, weights,
                                                                 low + s * (high - low)))

    def test_places(self):
        for t in [item for item, _ in WRONG_RATIO] + [(0, 1), (1, 1), (-1, 2), (3, 2), (HUGE, 1)]:
            self.fails("BadRatio", conic_split, *CIRCLE, t)
        for t in ((1, HUGE), (HUGE - 1, HUGE)):
            self.assertEqual(len(conic_split(*CIRCLE, t)), 2)


class Kinds(Case):
    def test_conic_kind(self):
        for weights, due in [
            ((1, 1, 2), "ellipse"), ((1, 1, 1), "parabola"), ((1, "5/4", 1), "hyperbola"),
            ((4, 2, 1), "parabola"), ((4, "199/100", 1), "ellipse"), ((4, "201/100", 1), "hyperbola"),
            (("1/2", "1/3", "2/9"), "parabola"), ((HUGE, HUGE, HUGE), "parabola"),
        ]:
            self.same(conic_kind(ratios(*weights)), due)

    def test_equation_kind(self):
        for numbers, due in [
            ((1, 0, 1, 0, 0, -1), "ellipse"), ((1, 0, -1, 0, 0, 0), "hyperbola"),
            ((1, 2, 1, 0, 0, 0), "parabola"), ((0, 0, 0, 1, 1, 0), "parabola"),
            ((0, 1, 0, 0, 0, 0), "hyperbola"), ((-1, 3, -2, 0, 0, 5), "hyperbola"),
            ((-2, 1, -1, 4, 0, 5), "ellipse"), ((9, 6, 1, 0, 0, 5), "parabola"),
            ((9, 5, 1, 0, 0, 5), "ellipse"), ((9, -7, 1, 0, 0, 5), "hyperbola"),
        ]:
            self.same(equation_kind(numbers), due)

    def test_one_number(self):
        due = ["parabola", "hyperbola", "parabola", "parabola", "parabola"]
        for at in range(5):
            for number in (1, -3):
                numbers = (0,) * at + (number,) + (0,) * (5 - at)
                self.same(equation_kind(numbers), due[at])
                self.same(equation_value(numbers, ratios(2, 3)),
                          ratio_of(number * (4, 6, 9, 2, 3)[at]))


class EquationValue(Case):
    def test_ordinary(self):
        self.same(equation_value(EQUATION, ratios("3/5", "4/5")), (0, 1))
        self.same(equation_value(EQUATION, ratios("1/2", 0)), (-3, 4))
        self.same(equation_value((1, 2, 3, 4, 5, 6), ratios(1, -1)), (7, 1))

    def test_many(self):
        source = Source(241)
        for _ in range(40):
            numbers = tuple(source.random.randint(-9, 9) for _ in range(5)) + (HUGE,)
            if any(numbers[:5]):
                x, y = source.many(2)
                self.same(equation_value(numbers, ratios(x, y)), ratio_of(value(numbers, x, y)))

    def test_points(self):
        for item in NOT_TUPLES + ODD_ITEMS + ((ratios(1, 2),), ratios(1, 2, 3), list(ratios(1, 2))):
            self.fails("BadPoints", equation_value, EQUATION, item, index=0)

    def test_equations(self):
        for numbers, (name, fields) in wrong_equation():
            self.fails(name, equation_kind, numbers, **fields)
            self.fails(name, equation_value, numbers, ratios(1, 2), **fields)
            self.fails(name, equation_value, numbers, None, **fields)


class Equation(Case):
    def test_ordinary(self):
        self.same(equation(*CIRCLE), EQUATION)
        # 4 * y is the square of x + y: x is 2 * t - t * t, y is t * t.
        self.same(equation(*PARABOLA), (1, 2, 1, 0, -4, 0))
        self.same(equation(points((0, 0), ("1/2", 0), (1, 1)), ratios(1, 1, 1)), (1, 0, 0, 0, -1, 0))
        self.same(equation(points((0, 0), (0, "1/2"), (1, 1)), ratios(1, 1, 1)), (0, 0, 1, -1, 0, 0))

    def test_many(self):
        source = Source(242)
        for _ in range(60):
            corners, weights = some(source)
            numbers = equation(corners, weights)
            self.assertEqual([type(number) for number in numbers], [int] * 6)
            self.assertEqual(gcd(*numbers), 1)
            self.assertGreater([number for number in numbers if number != 0][0], 0)
            self.assertTrue(any(numbers[:5]))
            for t in [Fraction(0), Fraction(1)] + source.many(6):
                x, y, weight = homogeneous(corners, weights, t)
                if weight != 0:
                    self.assertEqual(value(numbers, x / weight, y / weight), 0)
            # The corner in the middle and the center of the triangle's sides are beside it.
            places = [numbers_of(corner) for corner in corners]
            self.assertNotEqual(value(numbers, *places[1]), 0)
            self.assertNotEqual(value(numbers, *[(a + b) / 2 for a, b in zip(places[0], places[2])]), 0)
            self.same(equation_kind(numbers), conic_kind(weights))

    def test_in_line(self):
        for corners in [
            ((0, 0), (1, 1), (2, 2)), ((0, 0), (2, 2), (1, 1)), ((1, 5), (1, 7), (1, -2)),
            ((3, 2), (4, 2), (9, 2)), ((1, 1), (1, 1), (2, 3)), ((1, 1), (2, 3), (1, 1)),
            ((2, 3), (1, 1), (1, 1)), ((5, 5), (5, 5), (5, 5)), ((0, "1/3"), (1, "2/3"), (2, 1)),
        ]:
            self.assertIsNone(equation(points(*corners), ratios(1, 2, 3)))


def by_minors(pairs):
    """The numbers of the only equation by determinants, None if there are several."""
    rows = [[x * x, x * y, y * y, x, y, Fraction(1)] for x, y in pairs]

    def minor(columns, depth=0):
        if depth == 5:
            return Fraction(1)
        return sum(((-1) ** at * rows[depth][column]
                    * minor(columns[:at] + columns[at + 1:], depth + 1)
                    for at, column in enumerate(columns) if rows[depth][column]), Fraction(0))
    numbers = [(-1) ** at * minor([k for k in range(6) if k != at]) for at in range(6)]
    return numbers if any(numbers) else None


class ThroughFive(Case):
    def test_ordinary(self):
        five = points((1, 0), (0, 1), (-1, 0), (0, -1), ("3/5", "4/5"))
        self.same(through_five(five), EQUATION)
        self.same(through_five(five[::-1]), EQUATION)
        self.same(through_five(points((0, 0), (1, 1), (2, 4), (3, 9), (-1, 1))), (1, 0, 0, 0, -1, 0))
        self.same(through_five(points((0, 0), (1, 1), (4, 2), (9, 3), (1, -1))), (0, 0, 1, -1, 0, 0))

    def test_lines(self):
        # Three in line: two lines. x * y = 0 and x * (x + y - 3) = 0.
        self.same(through_five(points((0, 0), (0, 1), (0, 2), (1, 0), (5, 0))), (0, 1, 0, 0, 0, 0))
        self.same(through_five(points((0, 0), (0, 1), (0, 7), (1, 2), (5, -2))), (1, 1, 0, -3, 0, 0))

    def test_several(self):
        for five in [
            ((0, 0), (1, 1), (2, 2), (3, 3), (0, 5)), ((0, 0), (1, 1), (2, 2), (3, 3), (4, 4)),
            ((0, 5), (0, 0), (1, 1), (2, 2), (3, 3)), ((0, 0), (0, 0), (1, 0), (0, 1), (2, 3)),
            ((1, 0), (0, 1), (-1, 0), (0, -1), (0, -1)), ((1, 1), (1, 1), (1, 1), (1, 1), (1, 1)),
            ((7, 1), (7, 2), (3, 3), (7, 4), (7, 5)), ((1, 4), (2, 4), (3, 4), (5, 4), (8, 4)),
            ((0, 0), (1, 1), (2, 2), (0, 0), (5, 6)),
        ]:
            self.assertIsNone(through_five(points(*five)))

    def test_of_curves(self):
        source = Source(243)
        for _ in range(40):
            corners, weights = some(source)
            found = []
            while len(found) < 5:
                x, y, weight = homogeneous(corners, weights, source.number())
                if weight != 0 and [x / weight, y / weight] not in found:
                    found.append([x / weight, y / weight])
            self.same(through_five(points(*found)), equation(corners, weights))

    def test_many(self):
        source = Source(244)
        none = 0
        for _ in range(150):
            pairs = [[Fraction(source.random.randint(-2, 2)) for _ in range(2)] for _ in range(5)]
            due = by_minors(pairs)
            found = through_five(points(*pairs))
            if due is None:
                self.assertIsNone(found)
                none += 1
                continue
            self.assertEqual([type(number) for number in found], [int] * 6)
            self.assertEqual(gcd(*found), 1)
            first = [at for at, number in enumerate(due) if number != 0][0]
            self.assertGreater(found[first], 0)
            self.assertEqual(found, tuple(number / due[first] * found[first] for number in due))
        self.assertTrue(20 < none < 130)


class Wrong(Case):
    def test_points(self):
        for item, (name, fields) in wrong_points(3, 3):
            self.fails(name, equation, item, CIRCLE[1], **fields)
            self.fails(name, equation, item, None, **fields)
            for function in (conic_point, conic_split):
                self.fails(name, function, item, CIRCLE[1], (1, 2), **fields)
                self.fails(name, function, item, None, None, **fields)
        for item, (name, fields) in wrong_points(5, 5):
            self.fails(name, through_five, item, **fields)

    def test_weights(self):
        for item, (name, fields) in wrong_above_zero("BadWeights", 3):
            self.fails(name, equation, CIRCLE[0], item, **fields)
            # Weights are asked for also where the points are in line.
            self.fails(name, equation, (ratios(1, 1),) * 3, item, **fields)
            self.fails(name, conic_kind, item, **fields)
            for function in (conic_point, conic_split):
                self.fails(name, function, CIRCLE[0], item, None, **fields)
                self.fails(name, function, CIRCLE[0], item, (1, 2), **fields)

    def test_ratios(self):
        for t, (name, fields) in WRONG_RATIO:
            self.fails(name, conic_point, *CIRCLE, t, **fields)
        self.assertEqual(number_of(conic_point(*PARABOLA, (HUGE, 1))[1]), HUGE * HUGE)


if __name__ == "__main__":
    unittest.main()

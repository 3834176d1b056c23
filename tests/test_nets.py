"""Points 27 to 29: nets, their values and blossoms, other nets of the same values, terms."""

import unittest
from fractions import Fraction
from itertools import combinations, permutations
from math import factorial

from blendcurves.nets import net_blossom, net_of, net_raised, net_slope, net_split, net_terms
from blendcurves.nets import net_turned, net_value, place_of
from tests.helper import HUGE, NOT_RATIOS, NOT_TUPLES, ODD_ITEMS, Case, Source, number_of, numbers_of
from tests.helper import ratio_of, ratios, wrong_net, wrong_terms, wrong_triangle, wrong_triple

LINE = (ratios(0, 2), ratios(1))
QUADRATIC = (ratios(1, 2, "1/3"), ratios(0, -4), ratios("5/2"))
UNIT = (ratios(0, 0), ratios(1, 0), ratios(0, 1))
TURNED = (ratios(0, 0), ratios(0, 1), ratios(1, 0))
CORNERS = [(1, 0, 0), (0, 1, 0), (0, 0, 1)]


def net_from(source, degree):
    return tuple(source.row(degree - i) for i in range(degree + 1))


def some_nets(seed):
    source = Source(seed)
    return [LINE, QUADRATIC] + [net_from(source, degree) for degree in range(5) for _ in range(3)]


def some_places(seed, many=6):
    """Places as Fractions: the corners, some on sides, some inside, some outside."""
    source = Source(seed)
    found = [tuple(map(Fraction, corner)) for corner in CORNERS]
    found += [(Fraction(1, 2), Fraction(1, 2), Fraction(0)), (Fraction(0), Fraction(-1), Fraction(2)),
              (Fraction(1, 3),) * 3, (Fraction(-2), Fraction(5, 2), Fraction(1, 2))]
    for _ in range(many):
        u, v = source.many(2)
        found.append((u, v, 1 - u - v))
    return found


def ways(degree, i, j):
    return factorial(degree) // factorial(i) // factorial(j) // factorial(degree - i - j)


def value(net, place):
    """The sum that the document gives, for any three numbers."""
    u, v, w = place
    n = len(net) - 1
    return sum((number_of(net[i][j]) * ways(n, i, j) * u ** (n - i - j) * v ** i * w ** j
                for i in range(n + 1) for j in range(n + 1 - i)), Fraction(0))


def polarized(net, places):
    """The blossom from values at sums of the places, which need not add up to 1."""
    many = len(places)
    total = Fraction(0)
    for size in range(many + 1):
        for chosen in combinations(places, size):
            summed = [sum((place[at] for place in chosen), Fraction(0)) for at in range(3)]
            total += (-1) ** (many - size) * value(net, summed)
    return total / factorial(many)


def mixed(place, corners):
    """The place that stands for a place of the triangle of three places."""
    return tuple(sum(part * corner[at] for part, corner in zip(place, corners)) for at in range(3))


def triangles(seed, many):
    source = Source(seed)
    found = [UNIT, TURNED]
    while len(found) < many:
        corners = tuple(ratios(*source.many(2)) for _ in range(3))
        (a, b), (c, d), (e, f) = [numbers_of(corner) for corner in corners]
        if (c - a) * (f - b) != (e - a) * (d - b):
            found.append(corners)
    return found


def point_at(place, triangle):
    corners = [numbers_of(corner) for corner in triangle]
    return tuple(sum(part * corner[at] for part, corner in zip(place, corners)) for at in range(2))


def terms_at(terms, x, y):
    return sum((number_of(number) * x ** i * y ** j for (i, j), number in terms), Fraction(0))


class Shape(Case):
    def is_net(self, net, degree):
        self.assertEqual(type(net), tuple)
        self.assertEqual([type(row) for row in net], [tuple] * (degree + 1))
        self.assertEqual([len(row) for row in net], list(range(degree + 1, 0, -1)))
        self.assertIsNotNone(net_value(net, ratios(1, 0, 0)))


class NetValue(Shape):
    def test_ordinary(self):
        self.same(net_value(LINE, ratios("1/3", "1/3", "1/3")), (1, 1))
        self.same(net_value(LINE, ratios(0, 1, 0)), (1, 1))
        self.same(net_value(LINE, ratios(0, 0, 1)), (2, 1))
        self.same(net_value(LINE, ratios(-1, 3, -1)), (1, 1))
        self.same(net_value((ratios("7/3"),), ratios(5, -3, -1)), (7, 3))
        # Of a net of degree 2 net[1][1] is between the second and the third corner.
        edge = (ratios(0, 0, 0), ratios(0, 1), ratios(0))
        self.same(net_value(edge, ratios(0, "1/2", "1/2")), (1, 2))
        self.same(net_value(edge, ratios("1/2", "1/2", 0)), (0, 1))
        self.same(net_value((ratios(0, 1, 0), ratios(0, 0), ratios(0)), ratios("1/2", 0, "1/2")), (1, 2))

    def test_its_sum(self):
        for net in some_nets(271):
            for place in some_places(272):
                self.same(net_value(net, ratios(*place)), ratio_of(value(net, place)))

    def test_corners(self):
        for net in some_nets(273):
            for corner, due in zip(CORNERS, (net[0][0], net[-1][0], net[0][-1])):
                self.same(net_value(net, ratios(*corner)), due)

    def test_long_numbers(self):
        place = (Fraction(HUGE), Fraction(1, HUGE), 1 - HUGE - Fraction(1, HUGE))
        self.same(net_value(QUADRATIC, ratios(*place)), ratio_of(value(QUADRATIC, place)))


class NetBlossom(Shape):
    def test_ordinary(self):
        self.same(net_blossom(LINE, (ratios(0, 0, 1),)), (2, 1))
        self.same(net_blossom((ratios("7/3"),), ()), (7, 3))
        self.same(net_blossom(QUADRATIC, (ratios(0, 1, 0), ratios(0, 0, 1))), (-4, 1))

    def test_equal_places(self):
        for net in some_nets(274):
            for place in some_places(275):
                places = (ratios(*place),) * (len(net) - 1)
                self.same(net_blossom(net, places), net_value(net, ratios(*place)))

    def test_corners(self):
        first, second, third = [ratios(*corner) for corner in CORNERS]
        for net in some_nets(276):
            n = len(net) - 1
            for i, row in enumerate(net):
                for j, number in enumerate(row):
                    places = (first,) * (n - i - j) + (second,) * i + (third,) * j
                    self.same(net_blossom(net, places), number)
                    self.same(net_blossom(net, places[::-1]), number)

    def test_polarized(self):
        source = Source(277)
        for net in some_nets(278):
            for _ in range(3):
                places = source.random.choices(some_places(279), k=len(net) - 1)
                due = ratio_of(polarized(net, places))
                for order in list(permutations(places))[:8]:
                    self.same(net_blossom(net, tuple(ratios(*place) for place in order)), due)

    def test_linear_in_each_place(self):
        source = Source(280)
        for net in some_nets(281)[2:]:
            for at in range(len(net) - 1):
                places = [ratios(*place) for place in source.random.choices(some_places(282), k=4)]
                one, other, t = places[0], places[1], source.number()
                middle = ratios(*[(1 - t) * number_of(a) + t * number_of(b) for a, b in zip(one, other)])
                rest = (places[2:] * 2)[:len(net) - 2]
                low, high, found = [
                    number_of(net_blossom(net, tuple(rest[:at] + [place] + rest[at:])))
                    for place in (one, other, middle)
                ]
                self.assertEqual(found, (1 - t) * low + t * high)

    def test_places(self):
        good = ratios("1/2", "1/3", "1/6")
        for item, _ in wrong_triple("", 1):
            self.fails("BadPlaces", net_blossom, LINE, (item,))
            self.fails("BadPlaces", net_blossom, QUADRATIC, (item, good))
            self.fails("BadPlaces", net_blossom, QUADRATIC, (good, item))
        for degree in range(5):
            net = net_from(Source(283), degree)
            for many in range(7):
                if many != degree:
                    self.fails("BadPlaces", net_blossom, net, (good,) * many)
            self.fails("BadPlaces", net_blossom, net, [good] * degree)
        for item in NOT_TUPLES:
            self.fails("BadPlaces", net_blossom, (ratios(3),), item)


class NetRaised(Shape):
    def test_ordinary(self):
        self.same(net_raised(LINE), (ratios(0, 1, 2), ratios("1/2", "3/2"), ratios(1)))
        self.same(net_raised((ratios(5),)), (ratios(5, 5), ratios(5)))

    def test_same_values(self):
        for net in some_nets(284):
            if len(net) < 5:
                found = net_raised(net)
                self.is_net(found, len(net))
                for place in some_places(285):
                    self.assertEqual(value(found, place), value(net, place))

    def test_too_large(self):
        for net in some_nets(286):
            if len(net) == 5:
                self.fails("TooLarge", net_raised, net, most=4)


class NetTurned(Shape):
    def test_ordinary(self):
        self.same(net_turned(LINE), (ratios(1, 0), ratios(2)))
        self.same(net_turned((ratios("1/2"),)), (ratios("1/2"),))
        net = (ratios(1, 2, 3), ratios(4, 5), ratios(6))
        self.same(net_turned(net), (ratios(6, 4, 1), ratios(5, 2), ratios(3)))

    def test_same_values(self):
        for net in some_nets(287):
            found = net_turned(net)
            self.is_net(found, len(net) - 1)
            for u, v, w in some_places(288):
                self.assertEqual(value(found, (v, w, u)), value(net, (u, v, w)))
            self.same(net_turned(net_turned(found)), net)


class NetSplit(Shape):
    def test_ordinary(self):
        middle = ratios("1/3", "1/3", "1/3")
        self.same(net_split(LINE, middle),
                  ((ratios(1, 2), ratios(1)), (ratios(0, 2), ratios(1)), (ratios(0, 1), ratios(1))))

    def test_same_values(self):
        for net in some_nets(289):
            for place in some_places(290, 3):
                found = net_split(net, ratios(*place))
                self.assertEqual((type(found), len(found)), (tuple, 3))
                for at, part in enumerate(found):
                    self.is_net(part, len(net) - 1)
                    corners = CORNERS[:at] + [place] + CORNERS[at + 1:]
                    for inner in some_places(291, 2):
                        self.assertEqual(value(part, inner), value(net, mixed(inner, corners)))

    def test_at_corners(self):
        for net in some_nets(292):
            for at, corner in enumerate(CORNERS):
                self.same(net_split(net, ratios(*corner))[at], net)


class NetSlope(Shape):
    def test_ordinary(self):
        self.same(net_slope(LINE, ratios(-1, 1, 0)), (ratios(1),))
        self.same(net_slope(LINE, ratios(-1, 0, 1)), (ratios(2),))
        self.same(net_slope(LINE, ratios(0, "-1/2", "1/2")), (ratios("1/2"),))

    def test_degree_0(self):
        self.same(net_slope((ratios("5/2"),), ratios(1, -1, 0)), (((0, 1),),))
        self.same(net_slope((ratios(0),), ratios(0, 0, 0)), (((0, 1),),))

    def test_step_of_zeros(self):
        for net in some_nets(293):
            degree = max(len(net) - 2, 0)
            self.same(net_slope(net, ratios(0, 0, 0)),
                      tuple(ratios(*[0] * (degree + 1 - i)) for i in range(degree + 1)))

    def test_derivative(self):
        source = Source(294)
        for net in some_nets(295):
            for _ in range(3):
                du, dv = source.many(2)
                step = (du, dv, -du - dv)
                found = net_slope(net, ratios(*step))
                self.is_net(found, max(len(net) - 2, 0))
                for place in some_places(296, 2):
                    # Five values along the step tell the derivative of a degree up to 4.
                    along = [value(net, [p + t * s for p, s in zip(place, step)])
                             for t in (-2, -1, 1, 2)]
                    due = (along[0] - 8 * along[1] + 8 * along[2] - along[3]) / 12
                    self.assertEqual(value(found, place), due)

    def test_steps(self):
        for step in [ratios(1, 0, 0), ratios("1/3", "1/3", "1/3"), ratios(1, -1, 0, 0), ratios(1, -1)]:
            for net in ((ratios(5),), LINE, QUADRATIC):
                self.fails("BadPlace", net_slope, net, step)


class PlaceOf(Shape):
    def test_ordinary(self):
        self.same(place_of(ratios("1/4", "1/2"), UNIT), ratios("1/4", "1/4", "1/2"))
        self.same(place_of(ratios("1/4", "1/2"), TURNED), ratios("1/4", "1/2", "1/4"))
        self.same(place_of(ratios(2, 3), UNIT), ratios(-4, 2, 3))
        for triangle in (UNIT, TURNED):
            for corner, due in zip(triangle, CORNERS):
                self.same(place_of(corner, triangle), ratios(*due))

    def test_stands_for_the_point(self):
        source = Source(297)
        for triangle in triangles(298, 12):
            for _ in range(5):
                point = source.many(2)
                found = place_of(ratios(*point), triangle)
                self.assertEqual((type(found), len(found)), (tuple, 3))
                self.assertEqual(sum(numbers_of(found)), 1)
                self.same(found, ratios(*numbers_of(found)))
                self.assertEqual(list(point_at(numbers_of(found), triangle)), point)

    def test_points(self):
        for item in NOT_TUPLES + ODD_ITEMS + ((ratios(1, 2),), ratios(1, 2, 3), list(ratios(1, 2))):
            self.fails("BadPlace", place_of, item, UNIT)
            self.fails("BadPlace", place_of, item, None)
        for item in NOT_RATIOS:
            self.fails("BadPlace", place_of, (item, (1, 2)), UNIT)
            self.fails("BadPlace", place_of, ((1, 2), item), UNIT)


class Terms(Shape):
    def test_ordinary(self):
        self.same(net_terms(LINE, UNIT), (((0, 1), (2, 1)), ((1, 0), (1, 1))))
        self.same(net_terms(LINE, TURNED), (((0, 1), (1, 1)), ((1, 0), (2, 1))))
        self.same(net_terms((ratios("3/2"),), UNIT), (((0, 0), (3, 2)),))
        self.same(net_terms((ratios(4, 4), ratios(4)), UNIT), (((0, 0), (4, 1)),))
        self.same(net_of((((0, 1), (2, 1)), ((1, 0), (1, 1))), 1, UNIT), LINE)
        self.same(net_of((((1, 1), (1, 1)),), 2, UNIT), (ratios(0, 0, 0), ratios(0, "1/2"), ratios(0)))
        self.same(net_of((((0, 0), (3, 2)),), 2, UNIT), (ratios(*["3/2"] * 3), ratios(*["3/2"] * 2),
                                                         ratios("3/2")))

    def test_none(self):
        for degree in range(5):
            net = tuple(ratios(*[0] * (degree + 1 - i)) for i in range(degree + 1))
            self.same(net_terms(net, UNIT), ())
            self.same(net_of((), degree, TURNED), net)

    def test_values_at_points(self):
        for number, net in enumerate(some_nets(299)):
            for triangle in triangles(300 + number, 5):
                terms = net_terms(net, triangle)
                self.assertEqual(list(terms), sorted(terms))
                for (i, j), item in terms:
                    self.assertEqual([type(i), type(j)], [int, int])
                    self.assertTrue(i >= 0 and j >= 0 and i + j < len(net) and item != (0, 1))
                for place in some_places(301, 3):
                    self.assertEqual(terms_at(terms, *point_at(place, triangle)), value(net, place))
                self.same(net_of(terms, len(net) - 1, triangle), net)

    def test_net_of_any_terms(self):
        source = Source(302)
        for triangle in triangles(303, 6):
            for degree in range(5):
                powers = [(i, j) for i in range(degree + 1) for j in range(degree + 1 - i)]
                powers = sorted(source.random.sample(powers, source.random.randint(0, len(powers))))
                terms = tuple((power, ratio_of(source.number() or 1)) for power in powers)
                net = net_of(terms, degree, triangle)
                self.is_net(net, degree)
                self.same(net_terms(net, triangle), terms)
                if degree < 4:
                    self.same(net_of(terms, degree + 1, triangle), net_raised(net))
                for place in some_places(304, 2):
                    self.assertEqual(value(net, place), terms_at(terms, *point_at(place, triangle)))

    def test_degree_too_small(self):
        for i in range(7):
            for j in range(7):
                for terms in ((((i, j), (1, 2)),), tuple(sorted({(0, 0): (1, 3), (i, j): (2, 1)}.items()))):
                    for degree in range(5):
                        if degree < i + j:
                            self.fails("BadDegree", net_of, terms, degree, UNIT)
                            self.fails("BadDegree", net_of, terms, degree, None)
                        else:
                            self.is_net(net_of(terms, degree, UNIT), degree)
        self.fails("BadDegree", net_of, (((HUGE, 0), (1, 1)),), 4, UNIT)

    def test_wrong_terms(self):
        for terms, (name, fields) in wrong_terms():
            self.fails(name, net_of, terms, 4, UNIT, **fields)
            self.fails(name, net_of, terms, None, None, **fields)


class Wrong(Shape):
    def test_nets(self):
        good = ratios(1, 0, 0)
        for net, (name, fields) in wrong_net():
            for function, others in [(net_value, [good]), (net_blossom, [(good,) * 2]), (net_raised, []),
                                     (net_turned, []), (net_split, [good]), (net_terms, [UNIT]),
                                     (net_slope, [ratios(1, -1, 0)])]:
                self.fails(name, function, net, *others, **fields)
                self.fails(name, function, net, *[None for _ in others], **fields)

    def test_places(self):
        for place, (name, fields) in wrong_triple("BadPlace", 1):
            for function in (net_value, net_split):
                for net in ((ratios(3),), LINE, QUADRATIC):
                    self.fails(name, function, net, place, **fields)
        for step, (name, fields) in wrong_triple("BadPlace", 0):
            self.fails(name, net_slope, QUADRATIC, step, **fields)

    def test_triangles(self):
        for triangle, (name, fields) in wrong_triangle():
            self.fails(name, place_of, ratios(1, 2), triangle, **fields)
            self.fails(name, net_terms, QUADRATIC, triangle, **fields)
            self.fails(name, net_of, (), 2, triangle, **fields)


if __name__ == "__main__":
    unittest.main()

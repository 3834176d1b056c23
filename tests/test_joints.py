"""Points 30 and 31: nets that join, and the size of cells."""

import unittest
from fractions import Fraction
from math import comb

from blendcurves.joints import cell_size, continued, join_order
from tests.helper import HUGE, NOT_TUPLES, ODD_ITEMS, SQUARE, Case, Source, number_of, ratio_of
from tests.helper import ratios, wrong_integer, wrong_net, wrong_points, wrong_rim, wrong_triple
from tests.test_nets import CORNERS, LINE, QUADRATIC, mixed, some_nets, some_places, value

MIRROR = ratios(-1, 1, 1)
CENTER = ratios(0, 0)
PRIME = 2 ** 31 - 1


def beyond(seed, many=4):
    """Places with u below 0."""
    source = Source(seed)
    found = [(Fraction(-1), Fraction(1), Fraction(1)), (Fraction(-1, 3), Fraction(4, 3), Fraction(0))]
    for _ in range(many):
        u, v = -abs(source.number()) - Fraction(1, 7), source.number()
        found.append((u, v, 1 - u - v))
    return found


def derivatives(net, step, place):
    """The derivatives 0, 1, .. of a net along a step at a place."""
    numbers = []
    # The coefficients of the powers of t in the value at place + t * step, by differences.
    many = len(net)
    values = [value(net, [p + t * s for p, s in zip(place, step)]) for t in range(many)]
    while values:
        numbers.append(values[0])
        values = [after - one for one, after in zip(values, values[1:])]
    # numbers[k] stands beside t over k; as powers of t, factorials included.
    found = []
    for order in range(many):
        total = Fraction(0)
        for k in range(order, many):
            total += numbers[k] * falling_number(k, order)
        found.append(total)
    return found


def falling_number(k, order):
    """The derivative of that order at 0 of t * (t - 1) * .. * (t - k + 1) over k factorial."""
    numbers = [Fraction(1)]
    for root in range(k):
        numbers = [a - root * b for a, b in zip([Fraction(0)] + numbers, numbers + [Fraction(0)])]
        numbers = [item / (root + 1) for item in numbers]
    factor = 1
    for item in range(2, order + 1):
        factor *= item
    return numbers[order] * factor if order < len(numbers) else Fraction(0)


def joined_up_to(one, other, place):
    """The greatest order by derivatives across the common side, at many of its places."""
    n = len(one) - 1
    corners = [place] + CORNERS[1:]
    order = n
    for t in range(n + 2):
        here = (Fraction(0), Fraction(t), Fraction(1 - t))
        # A step of the first triangle, and the same step in the coordinates of the other one.
        inner = (Fraction(1), Fraction(-1), Fraction(0))
        outer = mixed(inner, corners)
        before = derivatives(one, outer, here)
        after = derivatives(other, inner, here)
        equal = [a == b for a, b in zip(before, after)] + [False]
        order = min(order, equal.index(False) - 1)
    return order


class Continued(Case):
    def test_ordinary(self):
        self.same(continued(LINE, MIRROR), (ratios(3, 2), ratios(1)))
        self.same(continued((ratios("5/2"),), MIRROR), (ratios("5/2"),))
        self.same(continued(QUADRATIC, ratios("-1/2", "3/2", 0)),
                  (ratios("47/8", -7, "1/3"), ratios("15/4", -4), ratios("5/2")))

    def test_same_values(self):
        for net in some_nets(305):
            for place in beyond(306):
                found = continued(net, ratios(*place))
                self.assertEqual([len(row) for row in found], [len(row) for row in net])
                corners = [place] + CORNERS[1:]
                for inner in some_places(307, 3):
                    self.assertEqual(value(found, inner), value(net, mixed(inner, corners)))
                # Both have the numbers along the common side.
                for i in range(len(net)):
                    self.same(found[i][-1], net[i][-1])

    def test_places(self):
        for u in (0, "1/1000", 1, 5, HUGE):
            place = ratios(u, 1 - Fraction(u), 0)
            self.fails("BadPlace", continued, LINE, place)
            self.fails("BadPlace", join_order, LINE, LINE, place)
        place = ratios(Fraction(-1, HUGE), 1, Fraction(1, HUGE))
        self.same(continued(LINE, place)[1:], LINE[1:])
        self.same(join_order(LINE, continued(LINE, place), place), 1)


class JoinOrder(Case):
    def test_ordinary(self):
        self.same(join_order(LINE, continued(LINE, MIRROR), MIRROR), 1)
        self.same(join_order(LINE, LINE, MIRROR), 0)
        self.same(join_order(LINE, (ratios(0, 2), ratios(7)), MIRROR), -1)
        self.same(join_order((ratios(1),), (ratios(1),), MIRROR), 0)
        self.same(join_order((ratios(1),), (ratios(2),), MIRROR), -1)

    def test_all_orders(self):
        source = Source(308)
        for net in some_nets(309):
            n = len(net) - 1
            for place in beyond(310, 2):
                same = continued(net, ratios(*place))
                self.same(join_order(net, same, ratios(*place)), n)
                for i in range(n + 1):
                    for j in range(n + 1 - i):
                        number = number_of(same[i][j]) + (source.number() or 1)
                        row = same[i][:j] + (ratio_of(number),) + same[i][j + 1:]
                        other = same[:i] + (row,) + same[i + 1:]
                        self.same(join_order(net, other, ratios(*place)), n - i - j - 1)

    def test_derivatives(self):
        source = Source(311)
        seen = {}
        for net in some_nets(312):
            n = len(net) - 1
            for place in beyond(313, 1):
                for _ in range(3):
                    kept = source.random.randint(-1, n)
                    same = continued(net, ratios(*place))
                    other = tuple(
                        tuple(number if n - i - j <= kept else ratio_of(source.number())
                              for j, number in enumerate(row))
                        for i, row in enumerate(same)
                    )
                    due = joined_up_to(net, other, place)
                    self.assertGreaterEqual(due, kept)
                    self.same(join_order(net, other, ratios(*place)), due)
                    seen[due] = True
        self.assertEqual(sorted(seen), [-1, 0, 1, 2, 3, 4])


def powers(degree):
    return [(i, j) for i in range(degree + 1) for j in range(degree + 1 - i)]


def derived_power(i, j, a, b):
    """The factor and the powers of the derivative by x a times and by y b times."""
    factor = 1
    for k in range(a):
        factor *= i - k
    for k in range(b):
        factor *= j - k
    return factor, max(i - a, 0), max(j - b, 0)


def rank_by_prime(rows):
    """The rank of rows of integers modulo a prime far above all that stands in them."""
    leads = {}
    for row in rows:
        row = [item % PRIME for item in row]
        while any(row):
            at = next(k for k, item in enumerate(row) if item)
            if at not in leads:
                inverse = pow(row[at], -1, PRIME)
                leads[at] = [item * inverse % PRIME for item in row]
                break
            factor, lead = row[at], leads[at]
            row = [(a - factor * b) % PRIME for a, b in zip(row, lead)]
    return len(leads)


def size_by_rank(center, rim, degree, order):
    """How many functions there are, by the equations of their derivatives along the sides."""
    terms = powers(degree)
    many = len(rim)
    rows = []
    x, y = center
    for at, (u, v) in enumerate(rim):
        for t in range(degree + 1):
            px, py = x + t * (u - x), y + t * (v - y)
            for a in range(order + 1):
                for b in range(order + 1 - a):
                    row = [0] * (many * len(terms))
                    for k, (i, j) in enumerate(terms):
                        factor, high, wide = derived_power(i, j, a, b)
                        item = factor * px ** high * py ** wide
                        row[at * len(terms) + k] += item
                        row[(at - 1) % many * len(terms) + k] -= item
                    rows.append(row)
    return many * len(terms) - rank_by_prime(rows)


def size_by_formula(rim, degree, order):
    """The number behind point 31, for a center at (0, 0)."""
    lines = len({Fraction(y, x) if x else None for x, y in rim})
    return (comb(order + 2, 2) + len(rim) * comb(degree - order + 1, 2)
            + sum(max(order + j + 1 - j * lines, 0) for j in range(1, degree - order + 1)))


RIMS = [
    [(1, 0), (0, 1), (-1, 0), (0, -1)],
    [(1, 0), (0, 1), (-1, -1)],
    [(5, -1), (1, 7), (-2, -1)],
    [(2, 1), (-1, 3), (-4, -2), (1, -1)],
    [(2, 1), (-1, 3), (-4, -2), (1, -3)],
    [(3, 0), (1, 1), (-1, 2), (-3, 0), (0, -1)],
    [(1, 0), (1, 1), (-1, 1), (-2, 0), (-1, -1), (1, -1)],
    [(3, 1), (1, 2), (-1, 5), (-6, -2), (-2, -5), (1, -9), (7, -1)],
    [(1, 0), (1, 1), (0, 1), (-1, 1), (-1, 0), (-1, -1), (0, -1), (1, -1)],
    [(5, 0), (4, 3), (1, 4), (-1, 4), (-3, 1), (-4, -2), (0, -3), (2, -3)],
]


def as_points(rim):
    return tuple(ratios(*pair) for pair in rim)


class CellSize(Case):
    def test_ordinary(self):
        self.same(cell_size(CENTER, SQUARE, 2, 1), 8)
        self.same(cell_size(CENTER, SQUARE, 0, 0), 1)
        self.same(cell_size(CENTER, SQUARE, 1, 0), 5)
        self.same(cell_size(CENTER, as_points([(1, 0), (0, 1), (-1, -1)]), 2, 1), 6)

    def test_formula(self):
        for rim in RIMS:
            for degree in range(5):
                for order in range(degree + 1):
                    due = size_by_formula(rim, degree, order)
                    self.same(cell_size(CENTER, as_points(rim), degree, order), due)
                    # It makes no difference where the rim begins.
                    self.same(cell_size(CENTER, as_points(rim[2:] + rim[:2]), degree, order), due)

    def test_rank(self):
        for rim in RIMS:
            for degree in range(5):
                for order in range(degree + 1):
                    if len(rim) * comb(degree + 2, 2) <= 75:
                        self.same(cell_size(CENTER, as_points(rim), degree, order),
                                  size_by_rank((0, 0), rim, degree, order))

    def test_other_centers(self):
        for dx, dy in [(Fraction(1, 2), Fraction(-7, 3)), (-4, 9)]:
            for rim in RIMS:
                moved = as_points([(x + dx, y + dy) for x, y in rim])
                for degree in range(5):
                    for order in range(degree + 1):
                        self.same(cell_size(ratios(dx, dy), moved, degree, order),
                                  size_by_formula(rim, degree, order))
        rim = [(4, 1), (2, 4), (-1, 5), (-2, -3)]
        self.same(cell_size(ratios(1, 2), as_points(rim), 3, 1), size_by_rank((1, 2), rim, 3, 1))

    def test_whole_polynomials(self):
        # What joins up to the degree is one polynomial.
        for rim in RIMS:
            for degree in range(5):
                self.same(cell_size(CENTER, as_points(rim), degree, degree), comb(degree + 2, 2))


class Wrong(Case):
    def test_nets(self):
        for net, (name, fields) in wrong_net():
            self.fails(name, continued, net, MIRROR, **fields)
            self.fails(name, continued, net, None, **fields)
            self.fails(name, join_order, net, net, MIRROR, **fields)
            self.fails(name, join_order, QUADRATIC, net, MIRROR, **fields)
            self.fails(name, join_order, QUADRATIC, net, None, **fields)

    def test_other_degree(self):
        nets = [tuple(ratios(*range(n + 1 - i)) for i in range(n + 1)) for n in range(5)]
        for one in nets:
            for other in nets:
                if len(one) == len(other):
                    self.assertIsInstance(join_order(one, other, MIRROR), int)
                else:
                    self.fails("BadNet", join_order, one, other, MIRROR)
                    self.fails("BadNet", join_order, one, other, None)

    def test_places(self):
        for place, (name, fields) in wrong_triple("BadPlace", 1):
            self.fails(name, continued, QUADRATIC, place, **fields)
            self.fails(name, join_order, QUADRATIC, QUADRATIC, place, **fields)
        for place in (ratios(-1, 1, 0), ratios(-1, 1, 2), (-1, 1, 1), list(MIRROR)):
            self.fails("BadPlace", continued, LINE, place)

    def test_centers(self):
        for item in NOT_TUPLES + ODD_ITEMS + ((ratios(1, 2),), ratios(1, 2, 3), list(CENTER)):
            self.fails("BadPoints", cell_size, item, SQUARE, 2, 1, index=None)
            self.fails("BadPoints", cell_size, item, (CENTER, None), None, None, index=None)
            self.fails("BadPoints", cell_size, (item, (0, 1)), SQUARE, 2, 1, index=None)

    def test_rims(self):
        for rim, (name, fields) in wrong_rim():
            self.fails(name, cell_size, CENTER, rim, 2, 1, **fields)
            self.fails(name, cell_size, CENTER, rim, None, None, **fields)
        # A center outside, on a side, at a corner, and on a line through two points of the rim.
        for center in [(2, 0), ("1/2", "1/2"), (1, 0), (HUGE, 1)]:
            self.fails("BadCell", cell_size, ratios(*center), SQUARE, 2, 1)
        self.fails("BadPoints", cell_size, CENTER, (CENTER,) * 7 + ("x",), 2, 1, index=7)
        for rim, _ in wrong_points(3, 8):
            self.fails("BadPoints", cell_size, None, rim, 2, 1, index=None)

    def test_degrees_and_orders(self):
        for degree, (name, fields) in wrong_integer("BadDegree", 0, 4):
            self.fails(name, cell_size, CENTER, SQUARE, degree, 0, **fields)
            self.fails(name, cell_size, CENTER, SQUARE, degree, None, **fields)
        for degree in range(5):
            for order, (name, fields) in wrong_integer("BadNumber", 0, degree):
                self.fails(name, cell_size, CENTER, SQUARE, degree, order, **fields)


if __name__ == "__main__":
    unittest.main()

"""What the tests share: ratios from Fractions, wrong values, and what a call does."""

import unittest
from fractions import Fraction
from functools import lru_cache
from random import Random

from blendcurves.bsplines import spline_pieces
from blendcurves.errors import BlendError


def ratio_of(number):
    """The ratio of a Fraction, an integer or a text like "1/2"."""
    number = Fraction(number)
    return (number.numerator, number.denominator)


def ratios(*numbers):
    return tuple(ratio_of(number) for number in numbers)


def number_of(ratio):
    return Fraction(ratio[0], ratio[1])


def numbers_of(items):
    return [number_of(item) for item in items]


def poly(*numbers):
    """The polynomial with these coefficients from the power 0 on, zeros at the end left out."""
    numbers = list(numbers)
    while numbers and numbers[-1] == 0:
        numbers.pop()
    return ratios(*numbers)


def value_of(polynomial, x):
    return sum((number_of(item) * Fraction(x) ** power for power, item in enumerate(polynomial)),
               Fraction(0))


def product(*polynomials):
    """The product of polynomials, worked out apart from the package."""
    numbers = [Fraction(1)]
    for factor in polynomials:
        longer = [Fraction(0)] * (len(numbers) + len(factor))
        for at, number in enumerate(numbers):
            for after, item in enumerate(factor):
                longer[at + after] += number * number_of(item)
        numbers = longer
    return poly(*numbers)


def with_roots(*roots):
    return product(*[poly(-Fraction(root), 1) for root in roots])


def interpolated(pairs):
    """The Fractions from the power 0 on of the polynomial through pairs (x, y)."""
    total = [Fraction(0)] * len(pairs)
    for at, (x, y) in enumerate(pairs):
        others = [z for number, (z, _) in enumerate(pairs) if number != at]
        factor = Fraction(y)
        numbers = [Fraction(1)]
        for z in others:
            factor /= x - z
            numbers = [one - z * other for one, other in zip([0] + numbers, numbers + [0])]
        total = [one + factor * other for one, other in zip(total, numbers)]
    return total


def derived(numbers):
    """The derivative of a polynomial of Fractions."""
    return [power * item for power, item in enumerate(numbers)][1:]


def at_fraction(numbers, x):
    """The value of a polynomial of Fractions."""
    return sum((item * x ** power for power, item in enumerate(numbers)), Fraction(0))


def integrated(numbers, low, high):
    """The integral of a polynomial of Fractions."""
    return sum((item * (high ** (power + 1) - low ** (power + 1)) / (power + 1)
                for power, item in enumerate(numbers)), Fraction(0))


def basis(degree, knots, i, x):
    """The value of a basis function by the recursion that the document gives, with Fractions."""
    if degree == 0:
        return Fraction(int(knots[i] <= x < knots[i + 1]))
    total = Fraction(0)
    if knots[i + degree] != knots[i]:
        part = (x - knots[i]) / (knots[i + degree] - knots[i])
        total += part * basis(degree - 1, knots, i, x)
    if knots[i + degree + 1] != knots[i + 1]:
        part = (knots[i + degree + 1] - x) / (knots[i + degree + 1] - knots[i + 1])
        total += part * basis(degree - 1, knots, i + 1, x)
    return total


def within(low, high, many):
    """So many Fractions between two, neither of them included."""
    return [low + (high - low) * Fraction(2 * at + 1, 2 * many) for at in range(many)]


def breaks_of(*splines):
    """The different knots of splines as Fractions, ascending."""
    return sorted({number_of(knot) for spline in splines for knot in spline[1]})


@lru_cache(maxsize=4096)
def sum_at(spline, x):
    """The sum of the basis functions at a Fraction, which is 0 at the last knot."""
    degree, knots, row = spline
    numbers = numbers_of(knots)
    return sum((number_of(item) * basis(degree, numbers, i, x) for i, item in enumerate(row)),
               Fraction(0))


@lru_cache
def parts_of(spline):
    """Pairs ((low, high), polynomial of Fractions), from values between the knots."""
    breaks = breaks_of(spline)
    return [
        ((low, high), interpolated([(x, sum_at(spline, x))
                                    for x in within(low, high, spline[0] + 1)]))
        for low, high in zip(breaks, breaks[1:])
    ]


def spline_at(spline, x):
    """The value at a Fraction from end to end, at the last knot the limit from below."""
    (_, high), numbers = parts_of(spline)[-1]
    return at_fraction(numbers, x) if x == high else sum_at(spline, x)


def order_of(one, other, x, most):
    """The greatest order up to most up to which polynomials of Fractions join, -1 for none."""
    order = -1
    while order < most and at_fraction(one, x) == at_fraction(other, x):
        one, other, order = derived(one), derived(other), order + 1
    return order


def order_at(spline, x):
    """How smooth a spline is at a Fraction between its ends."""
    parts = parts_of(spline)
    left = [numbers for (low, _), numbers in parts if low < x][-1]
    right = [numbers for (_, high), numbers in parts if x < high][0]
    return order_of(left, right, x, spline[0])


def rank_of(rows):
    """How many rows of Fractions are no sums of multiples of the ones before."""
    kept = []
    for row in rows:
        for lead, at in kept:
            row = [one - row[at] / lead[at] * other for one, other in zip(row, lead)]
        filled = [at for at, number in enumerate(row) if number != 0]
        if filled:
            kept.append((row, filled[0]))
    return len(kept)


class Source:
    """Fractions and what is made of them, the same ones in each run."""

    def __init__(self, seed):
        self.random = Random(seed)

    def number(self, most=9):
        return Fraction(self.random.randint(-most, most), self.random.randint(1, most))

    def many(self, count, most=9):
        return [self.number(most) for _ in range(count)]

    def poly(self, degree):
        numbers = self.many(degree + 1)
        if numbers and numbers[-1] == 0:
            numbers[-1] = Fraction(1)
        return poly(*numbers)

    def row(self, degree):
        return ratios(*self.many(degree + 1))

    def spline(self, degree, inner, most=16):
        """A spline with up to so many different inner knots, each as often as it comes."""
        low = self.number()
        knots = [low] * (degree + 1)
        high = low
        for _ in range(inner):
            high += Fraction(self.random.randint(1, 6), self.random.randint(1, 4))
            room = most - degree - 1 - len(knots)
            knots += [high] * min(self.random.randint(1, degree + 1), room)
        high += Fraction(self.random.randint(1, 6), self.random.randint(1, 4))
        knots += [high] * (degree + 1)
        return (degree, ratios(*knots), ratios(*self.many(len(knots) - degree - 1)))

    def interval(self):
        low = self.number()
        return ratios(low, low + Fraction(self.random.randint(1, 9), self.random.randint(1, 4)))


def told(error):
    """The name of an error's class and its fields."""
    return (error.__class__.__name__, dict(vars(error)))


def outcome(function, arguments):
    """What a call raises, as told has it, or None."""
    try:
        function(*arguments)
    except BlendError as error:
        return told(error)
    return None


def alike(one, other):
    """Tell whether values are equal in all their kinds: True is not 1, a list no tuple."""
    if one.__class__ is not other.__class__:
        return False
    if isinstance(one, (tuple, list)):
        return len(one) == len(other) and all(map(alike, one, other))
    if isinstance(one, dict):
        return alike(list(one.items()), list(other.items()))
    return one == other


class Case(unittest.TestCase):
    """A test case with what the tests of this package ask most often."""

    def same(self, found, due):
        self.assertEqual(found, due)
        self.assertTrue(alike(found, due))

    def has_values(self, spline, function, *others):
        """The spline has the values of a function of Fractions, also between knots of others."""
        breaks = breaks_of(spline, *others)
        due = breaks_of(*others)
        self.assertEqual((breaks[0], breaks[-1]), (due[0], due[-1]))
        places = breaks + [x for ends in zip(breaks, breaks[1:]) for x in within(*ends, 5)]
        for x in places:
            self.assertEqual(spline_at(spline, x), function(x))

    def is_spline(self, value):
        """The value is one: kinds of parts, ends, how often knots stand, how many they are."""
        self.assertIsNone(outcome(spline_pieces, (value,)))

    def fails(self, name, function, *arguments, **fields):
        self.assertEqual(outcome(function, arguments), (name, fields))


ONE = (1, 1)
HUGE = 10 ** 400

NOT_TUPLES = (None, True, False, 0, 1, -7, "", "x", "1/2", [], [(1, 1)], [1, 2], {}, {0: (1, 1)})
NOT_RATIOS = NOT_TUPLES + (
    (), (1,), (1, 2, 3), (2, 4), (-2, 4), (0, 2), (0, -1), (1, 0), (0, 0), (1, -2), (True, 1),
    (1, True), (False, 1), ("1", 1), (1, None), ((1, 1), 1), ((1, 1), (1, 1)), ([1], 1),
    (HUGE, 10), [1, 1],
)
# Values that are wrong within a tuple, where some of the others would be right.
ODD_ITEMS = (None, True, 1, "1", [1, 1], {}, (), (2, 4), (1, 0), (1, -2), (True, 1), (1, 1, 1))


def wrong(name, values, **fields):
    """Pairs of a wrong value and what it raises."""
    return [(value, (name, fields)) for value in values]


def wrong_items(name, good):
    """Wrong values for a tuple of ratios whose error tells the index."""
    found = []
    for at in range(len(good)):
        for item in ODD_ITEMS:
            found += wrong(name, [good[:at] + (item,) + good[at + 1:]], index=at)
            # A later wrong item is not told.
            if at + 1 < len(good):
                found += wrong(name, [good[:at] + (item,) * (len(good) - at)], index=at)
    return found


WRONG_RATIO = wrong("BadRatio", NOT_RATIOS)
WRONG_POLY = wrong("BadPolynomial", list(NOT_TUPLES) + [
    ((0, 1),), ((1, 1), (0, 1)), (ONE,) * 14, ((0, 1),) * 13, (1,), (1, 2), (ONE, None),
] + [(item, ONE) for item in ODD_ITEMS] + [(ONE, item) for item in ODD_ITEMS])
WRONG_NONZERO = WRONG_POLY + wrong("BadPolynomial", [()])
WRONG_NODES = (
    wrong("BadNodes", NOT_TUPLES + ((), (ONE,) * 9), index=None)
    + wrong_items("BadNodes", ratios(0, 1, 2))
    + wrong("BadNodes", [ratios(1, 0), ratios(1, "1/2", 0)], index=1)
    + wrong("BadNodes", [ratios(1, 1, 0), ratios(1, 2, "3/2", 1), ratios(0, 0, -1, 3)],
            index=2)
    + wrong("BadNodes", [ratios(1, 1, 1, 2, 2, 3, 3, 2)], index=7)
)


def wrong_tuple(name, many):
    """Wrong values for a tuple of so many ratios, many above 0."""
    good = ratios(*range(many))
    values = list(NOT_TUPLES) + [(), good[1:], good + (ONE,), list(good)]
    values += [(item,) + good[1:] for item in ODD_ITEMS]
    values += [good[:-1] + (item,) for item in ODD_ITEMS]
    return wrong(name, values)


WRONG_ROW = (
    wrong("BadRow", NOT_TUPLES + ((), (ONE,) * 10), index=None)
    + wrong_items("BadRow", ratios(2, 1, 0))
    + wrong("BadRow", [(ONE,) * 8 + (1,)], index=8)
)
WRONG_INTERVAL = wrong_tuple("BadInterval", 2) + wrong("BadInterval", [
    ratios(1, 1), ratios(1, 0), ratios("1/2", "1/3"), (0, 1), (1, 2),
])


def wrong_integer(name, least, most):
    return wrong(name, [least - 1, most + 1, -HUGE, HUGE, True, False, None, "1", "", [], [1], {},
                        (), (1,), (1, 1), (0, 1)])


def wrong_spline(good, without=()):
    """Wrong values in place of a spline of a degree above 0; without tells degrees not right."""
    degree, knots, row = good
    least = 2 * degree + 2
    first, last = knots[0], knots[-1]
    top = ratio_of(number_of(last) + 1)
    ends = [first] * (degree + 1), [last] * (degree + 1)
    wrong_ones = list(NOT_TUPLES) + [
        (), knots[1:], knots[:-1], (knots[0],) + knots, knots + (knots[-1],), knots + (top,),
        list(knots), (first,) * least, (first,) * (degree + 1), knots[::-1],
        tuple(ends[0] * 2), tuple(ends[0] + ends[1][1:]), tuple(ends[0][1:] + ends[1]),
        tuple(ends[0] + [last] + ends[1]), tuple([first] + ends[0] + ends[1]),
        tuple(ends[0] + [None] + ends[1]), tuple([(0, 2)] * (degree + 1) + ends[1]),
        tuple(ratios(*range(least))), tuple(ratios(*range(17))),
        tuple(ratios(*[0] * (degree + 1), *range(1, 16 - 2 * degree), *[99] * (degree + 1))),
    ]
    whole = list(NOT_TUPLES) + [(), good[:2], good[:1], good + (row,), list(good), (good,)]
    whole += [(degree, knots, row, None), ((degree, knots), row)]
    found = wrong("BadSpline", whole, index=None)
    degrees = [value for value, _ in wrong_integer("BadSpline", 0, 4)] + list(without)
    found += wrong("BadSpline", [(item, knots, row) for item in degrees], index=0)
    found += wrong("BadSpline", [(item, None, []) for item in degrees], index=0)
    found += wrong("BadSpline", [(degree, item, row) for item in wrong_ones], index=1)
    found += wrong("BadSpline", [(degree, item, None) for item in wrong_ones], index=1)
    rows = [value for value, _ in wrong_tuple("BadSpline", len(row))]
    return found + wrong("BadSpline", [(degree, knots, item) for item in rows], index=2)


def wrong_breaks(least, most):
    """Wrong values for a tuple of least to most rising ratios whose error tells the index."""
    good = ratios(*range(least))
    return (
        wrong("BadNodes", NOT_TUPLES + ((), good[1:], ratios(*range(most + 1)), list(good)),
              index=None)
        + wrong_items("BadNodes", good)
        + wrong("BadNodes", [ratios(0, 0), ratios(1, 0), ratios(0, "-1/2", 1)], index=1)
        + wrong("BadNodes", [ratios(0, 1, 1), ratios(0, 2, 1, 0), ratios(0, 1, 1, 1)], index=2)
        + wrong("BadNodes", [ratios(*range(most - 1), most - 2)], index=most - 1)
        + wrong("BadNodes", [ratios(*range(most - 1)) + (1,)], index=most - 1)
    )


def wrong_rising(least, most):
    """Wrong values for a tuple of least to most rising ratios whose error tells no index."""
    return wrong("BadPlaces", [value for value, _ in wrong_breaks(least, most)])


def wrong_points(least, most):
    """Wrong values for a tuple of least to most points."""
    good = tuple(ratios(at, at * at) for at in range(least))
    more = (ratios(1, 1),) * (most + 1 - least)
    items = list(NOT_TUPLES) + list(ODD_ITEMS) + [ratios(1, 2, 3), ratios(1), list(good[0]), good]
    items += [(item, ONE) for item in ODD_ITEMS] + [(ONE, item) for item in ODD_ITEMS]
    found = wrong("BadPoints", NOT_TUPLES + ((), good[1:], good + more, list(good)), index=None)
    for at in range(least):
        found += wrong("BadPoints", [good[:at] + (item,) + good[at + 1:] for item in items], index=at)
        found += wrong("BadPoints", [good[:at] + (item,) * (least - at) for item in items], index=at)
    return found


def wrong_above_zero(name, many):
    """Wrong values for a tuple of so many ratios above 0."""
    good = ratios(*range(1, many + 1))
    found = wrong_tuple(name, many)
    for at in range(many):
        for item in ((0, 1), (-1, 1), (-3, 7)):
            found += wrong(name, [good[:at] + (item,) + good[at + 1:]])
    return found


def wrong_equation():
    """Wrong values for an equation."""
    good = (1, 2, 3, 4, 5, 6)
    values = list(NOT_TUPLES) + [(), good[1:], good + (7,), list(good), (0,) * 6, (0,) * 5 + (1,)]
    values += [good[:at] + (item,) + good[at + 1:] for at in range(6)
               for item in (None, True, False, "1", [1], (1, 1), {}, ())]
    return wrong("BadEquation", values)


def wrong_curve():
    """Wrong values for a curve."""
    good = (poly(0, 1), poly(1, 2, 3, 4))
    parts = [value for value, _ in WRONG_NONZERO] + [poly(5), poly(0, 0, 0, 0, 1), poly(*[1] * 13)]
    found = wrong("BadCurve", NOT_TUPLES + ((), good[:1], good + good[:1], list(good)), index=None)
    found += wrong("BadCurve", [(item, good[1]) for item in parts], index=0)
    found += wrong("BadCurve", [(item, item) for item in parts], index=0)
    return found + wrong("BadCurve", [(good[0], item) for item in parts], index=1)


def wrong_line():
    """Wrong values for the numbers of a line."""
    return wrong_tuple("BadData", 3) + wrong("BadData", [ratios(0, 0, 0), ratios(0, 0, 5)])


def wrong_matrix():
    """Wrong values for a matrix."""
    good = (ratios(1, 2), ratios(3, 5))
    rows = list(NOT_TUPLES) + [(), list(good[0]), good[0] * 3, good]
    rows += [(item, ONE) for item in ODD_ITEMS] + [(ONE, item) for item in ODD_ITEMS]
    shorter = [ratios(1), ratios(1, 2, 3), ratios(1, 2, 3, 4, 5)]
    found = wrong("BadMatrix", NOT_TUPLES + ((), good * 3, list(good), [good]), row=None)
    found += wrong("BadMatrix", [(item,) for item in rows], row=0)
    found += wrong("BadMatrix", [(item, item) for item in rows], row=0)
    found += wrong("BadMatrix", [(item,) + good for item in rows], row=0)
    found += wrong("BadMatrix", [good[:1] + (item,) for item in rows + shorter], row=1)
    found += wrong("BadMatrix", [good + (item, item) for item in rows + shorter], row=2)
    return found + wrong("BadMatrix", [good * 2 + (item,) for item in rows + shorter], row=4)


def wrong_pieces(degree):
    """Wrong values for pieces of a degree."""
    right = (ratios(0, 1), poly(*[1] * (degree + 1)))
    after = (ratios(1, 3), ())
    items = list(ODD_ITEMS) + [right[0], right[1], right[:1], right + (None,), list(right)]
    items += [(item, ()) for item, _ in WRONG_INTERVAL]
    items += [(right[0], item) for item, _ in WRONG_POLY] + [right[::-1]]
    items += [(right[0], poly(*[0] * (degree + 1), 1)), (right[0], poly(*[1] * 13))]
    found = wrong("BadPieces", NOT_TUPLES + ((), (right,) * 9, [right], {0: right}), index=None)
    found += wrong("BadPieces", [(item,) for item in items], index=0)
    found += wrong("BadPieces", [(item, None) for item in items], index=0)
    found += wrong("BadPieces", [(right, item) for item in items], index=1)
    found += wrong("BadPieces", [(right, after, item) for item in items], index=2)
    # Pieces that do not begin where the one before ends.
    apart = [(ratios(*ends), ()) for ends in [(2, 3), (0, 1), ("1/2", 3), (0, 3), (-1, 0)]]
    found += wrong("BadPieces", [(right, item) for item in apart], index=1)
    found += wrong("BadPieces", [(right, after, item) for item in apart], index=2)
    found += wrong("BadPieces", [(right, apart[0], apart[0], None)], index=1)
    line = [(ratios(at, at + 1), ()) for at in range(9)]
    found += wrong("BadPieces", [tuple(line)], index=None)
    return found + wrong("BadPieces", [tuple(line[:7]) + (line[8],)], index=7)


def wrong_knots(degree):
    """Wrong values for knots of a degree."""
    least = degree + 2
    good = ratios(*range(least))
    return (
        wrong("BadKnots", NOT_TUPLES + ((), good[1:], ratios(*range(17)), list(good)), index=None)
        + wrong_items("BadKnots", good)
        + wrong("BadKnots", [(ONE,) * (degree + 1) + (ONE,)], index=degree + 1)
        + wrong("BadKnots", [ratios(0) + (ONE,) * (degree + 2)], index=degree + 2)
        + wrong("BadKnots", [ratios(*range(least), least - 2)], index=least)
        + wrong("BadKnots", [ratios(*range(15), 13)], index=15)
    )


def wrong_triple(name, total):
    """Wrong values for a triple of ratios that add up to an integer."""
    good = ratios(total, 0, 0)
    values = list(NOT_TUPLES) + [
        (), good[:1], good[:2], good + ((0, 1),), list(good), (good,), ((total, 1), (0, 1), [0, 1]),
        ratios(total, 1, 0), ratios(total, 0, "1/1000"), ratios(total, 0, -HUGE),
        ratios(total + 1, "-1/2", "-1/3"), ((2 * total, 2), (0, 1), (0, 1)) if total else good * 2,
        (total, 0, 0),
    ]
    for at in range(3):
        values += [good[:at] + (item,) + good[at + 1:] for item in ODD_ITEMS]
    return wrong(name, values)


def wrong_net(degrees=range(5)):
    """Wrong values for a net; those of other degrees than these are wrong, too."""
    good = (ratios(1, 2, 3), ratios(4, 5), ratios(6))
    values = list(NOT_TUPLES) + [
        (), ((),), good[:1], good[:2], good + ((),), good + good[2:], good[::-1], good[1:] + good[:1],
        list(good), [list(row) for row in good], (good,), good[0], (good[0],) * 3, (good[0],) * 2,
        (ratios(1, 2, 3), ratios(4, 5, 0), ratios(6, 0, 0)), (ratios(1, 2), ratios(1, 2)),
        tuple(ratios(*range(6 - i)) for i in range(6)), (ratios(1), ratios(1, 2)),
    ]
    for at in range(3):
        items = list(NOT_TUPLES) + [list(good[at]), good[at] + (ONE,), good[at][1:], good]
        items += [good[at][:-1] + (item,) for item in ODD_ITEMS]
        items += [(item,) + good[at][1:] for item in ODD_ITEMS]
        values += [good[:at] + (item,) + good[at + 1:] for item in items]
    values += [tuple(ratios(*range(degree + 1 - i)) for i in range(degree + 1))
               for degree in range(5) if degree not in degrees]
    return wrong("BadNet", values)


def wrong_triangle():
    """Wrong values for a triangle."""
    line = [((0, 0), (1, 1), (2, 2)), ((0, 0), (2, 2), (1, 1)), ((1, 5), (1, 7), (1, -2)),
            ((3, 2), (4, 2), (9, 2)), ((1, 1), (1, 1), (2, 3)), ((1, 1), (2, 3), (1, 1)),
            ((2, 3), (1, 1), (1, 1)), ((5, 5), (5, 5), (5, 5)), ((0, "1/3"), (1, "2/3"), (2, 1))]
    values = [value for value, _ in wrong_points(3, 3)]
    return wrong("BadTriangle", values + [tuple(ratios(*pair) for pair in item) for item in line])


def wrong_terms():
    """Wrong values for terms."""
    good = (((0, 1), (2, 1)), ((2, 0), (1, 3)))
    powers = [None, True, 0, "00", [0, 1], {}, (), (0,), (0, 1, 2), (0, -1), (-1, 0), (0, True),
              (False, 0), (0, "1"), (None, 0), (0, (1, 1)), ((0, 1), 1), ([0], 1)]
    numbers = list(NOT_RATIOS) + [(0, 1)]
    items = list(NOT_TUPLES) + [(), good[0][:1], good[0] + (ONE,), list(good[0]), good[0][::-1]]
    items += [(power, ONE) for power in powers] + [((0, 1), number) for number in numbers]
    values = list(NOT_TUPLES) + [list(good), dict(good), good[::-1], good + good[:1], good + good[1:],
                                 (good[0], good[0]), good[0], (good,)]
    values.remove([])
    values += [[], (((0, 1), ONE), ((0, 0), ONE)), (((1, 0), ONE), ((0, 4), ONE))]
    values += [(item,) for item in items] + [good + (item,) for item in items]
    values += [(((0, 0), ONE), item, good[1]) for item in items]
    return wrong("BadTerms", values)


SQUARE = tuple(ratios(*pair) for pair in [(1, 0), (0, 1), (-1, 0), (0, -1)])


def wrong_rim():
    """Wrong values for a rim around (0, 0)."""
    around = [(2, 0), (1, 2), (-1, 2), (-2, 0), (-1, -2), (1, -2)]
    others = [
        # To the right, not all around, twice, three times, there and back.
        [(1, 0), (0, -1), (-1, 0), (0, 1)], around[::-1], [(1, 0), (1, 1), (0, 1)],
        [(1, 0), (0, 1), (-1, 0), (0, -1)] * 2, [(1, 0), (-1, 1), (-1, -1)] * 2,
        [(2, 0), (-1, 2), (-1, -2), (2, 1), (-2, 1), (1, -2)],
        [(2, 0), (-2, 1), (1, -2), (1, 1), (-2, 0), (1, -1), (0, 1), (-1, -1)],
        [(1, 0), (0, 1), (-1, 0), (0, 1), (-1, 0), (0, -1)],
        # A half turn, no turn, the center itself, the same point twice.
        [(1, 0), (0, 1), (0, -1)], [(1, 0), (-1, 0), (0, -1)], [(1, 0), (2, 0), (0, 1), (-1, -1)],
        [(1, 0), (0, 1), (0, 0), (-1, -1)], [(0, 0), (1, 0), (0, 1)], [(1, 0)] * 3,
        [(1, 0), (1, 0), (0, 1), (-1, -1)], [(1, 0), (0, 1), (-1, -1), (1, 0)],
        [(1, 1), (2, 1), (2, 3)], [(1, 0), (0, 1), (1, -1)], [(0, 0), (0, 0), (0, 0)],
    ]
    return wrong_points(3, 8) + wrong("BadCell", [
        tuple(ratios(*pair) for pair in rim) for rim in others
    ])


def wrong_mask():
    """Wrong values for a mask."""
    good = ratios("1/4", "3/4", 0, "1/4")
    values = list(NOT_TUPLES) + [(), good[:1], (ONE,) * 11, list(good), (good, good), (1, 1),
                                 ratios(0, 1), ratios(1, 0), ratios(0, 0), ratios(0, 1, 1, 1, 0),
                                 ratios(1, *[0] * 9), ratios(0, *[1] * 9), ratios(1, 2, 3, 0)]
    for at in range(4):
        values += [good[:at] + (item,) + good[at + 1:] for item in ODD_ITEMS]
    return wrong("BadMask", values)


def wrong_sequence():
    """Wrong values for a sequence."""
    good = (-3, ratios(1, 0, "1/2"))
    starts = [value for value, _ in wrong_integer("", -999, 999)]
    rows = list(NOT_TUPLES) + [list(good[1]), (ONE,) * 41, ratios(*[0] * 41), good, (1, 2)]
    rows += [(item,) for item in ODD_ITEMS] + [good[1] + (item,) for item in ODD_ITEMS]
    rows += [(item,) + good[1] for item in ODD_ITEMS]
    values = list(NOT_TUPLES) + [(), good[:1], good + good[:1], list(good), good[::-1], (good,)]
    values += [(item, good[1]) for item in starts] + [(good[0], item) for item in rows]
    return wrong("BadSequence", values)


def wrong_patch(degrees=None):
    """Wrong values for a patch; those of other degrees than these two are wrong, too."""
    good = (ratios(1, 2, 3), ratios(4, 5, 6))
    values = list(NOT_TUPLES) + [
        (), ((),), ((), ()), good * 3, list(good), [list(row) for row in good], (good,), good[0],
        (ratios(*range(6)),), (ratios(*range(6)),) * 2, (ratios(1),) * 6, (ratios(1), ratios(1, 2)),
        (ratios(1, 2), ratios(1)), good + (ratios(1, 2),), good + (good[0] + (ONE,),), good + ((),),
    ]
    for at in range(2):
        items = list(NOT_TUPLES) + [(), list(good[at]), good[at] + (ONE,), good[at][1:], good]
        items += [good[at][:-1] + (item,) for item in ODD_ITEMS]
        items += [(item,) + good[at][1:] for item in ODD_ITEMS]
        values += [good[:at] + (item,) + good[at + 1:] for item in items]
    if degrees is not None:
        values += [(ratios(*range(wide + 1)),) * (high + 1) for high in range(5) for wide in range(5)
                   if (high, wide) != degrees]
    return wrong("BadPatch", values)


def wrong_short_row():
    """Wrong values for a row of 1 to 5 ratios."""
    return (
        wrong("BadRow", NOT_TUPLES + ((), (ONE,) * 6, (ONE,) * 9, (1,) * 6, list(ratios(1, 2))),
              index=None)
        + wrong_items("BadRow", ratios(2, 1, 0))
        + wrong("BadRow", [(ONE,) * 4 + (1,)], index=4)
    )

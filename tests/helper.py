"""What the tests share: ratios from Fractions, wrong values, and what a call does."""

import unittest
from fractions import Fraction
from random import Random

from blendcurves.errors import BlendError


def ratio_of(number):
    """The ratio of a Fraction, an integer or a text like "1/2"."""
    number = Fraction(number)
    return (number.numerator, number.denominator)


def ratios(*numbers):
    return tuple(ratio_of(number) for number in numbers)


def number_of(ratio):
    return Fraction(ratio[0], ratio[1])


def numbers_of(items):
    return [number_of(item) for item in items]


def poly(*numbers):
    """The polynomial with these coefficients from the power 0 on, zeros at the end left out."""
    numbers = list(numbers)
    while numbers and numbers[-1] == 0:
        numbers.pop()
    return ratios(*numbers)


def value_of(polynomial, x):
    return sum((number_of(item) * Fraction(x) ** power for power, item in enumerate(polynomial)),
               Fraction(0))


def product(*polynomials):
    """The product of polynomials, worked out apart from the package."""
    numbers = [Fraction(1)]
    for factor in polynomials:
        longer = [Fraction(0)] * (len(numbers) + len(factor))
        for at, number in enumerate(numbers):
            for after, item in enumerate(factor):
                longer[at + after] += number * number_of(item)
        numbers = longer
    return poly(*numbers)


def with_roots(*roots):
    return product(*[poly(-Fraction(root), 1) for root in roots])


class Source:
    """Fractions and what is made of them, the same ones in each run."""

    def __init__(self, seed):
        self.random = Random(seed)

    def number(self, most=9):
        return Fraction(self.random.randint(-most, most), self.random.randint(1, most))

    def many(self, count, most=9):
        return [self.number(most) for _ in range(count)]

    def poly(self, degree):
        numbers = self.many(degree + 1)
        if numbers and numbers[-1] == 0:
            numbers[-1] = Fraction(1)
        return poly(*numbers)

    def row(self, degree):
        return ratios(*self.many(degree + 1))

    def interval(self):
        low = self.number()
        return ratios(low, low + Fraction(self.random.randint(1, 9), self.random.randint(1, 4)))


def told(error):
    """The name of an error's class and its fields."""
    return (error.__class__.__name__, dict(vars(error)))


def outcome(function, arguments):
    """What a call raises, as told has it, or None."""
    try:
        function(*arguments)
    except BlendError as error:
        return told(error)
    return None


def alike(one, other):
    """Tell whether values are equal in all their kinds: True is not 1, a list no tuple."""
    if one.__class__ is not other.__class__:
        return False
    if isinstance(one, (tuple, list)):
        return len(one) == len(other) and all(map(alike, one, other))
    if isinstance(one, dict):
        return alike(list(one.items()), list(other.items()))
    return one == other


class Case(unittest.TestCase):
    """A test case with what the tests of this package ask most often."""

    def same(self, found, due):
        self.assertEqual(found, due)
        self.assertTrue(alike(found, due))

    def fails(self, name, function, *arguments, **fields):
        self.assertEqual(outcome(function, arguments), (name, fields))


ONE = (1, 1)
HUGE = 10 ** 400

NOT_TUPLES = (None, True, False, 0, 1, -7, "", "x", "1/2", [], [(1, 1)], [1, 2], {}, {0: (1, 1)})
NOT_RATIOS = NOT_TUPLES + (
    (), (1,), (1, 2, 3), (2, 4), (-2, 4), (0, 2), (0, -1), (1, 0), (0, 0), (1, -2), (True, 1),
    (1, True), (False, 1), ("1", 1), (1, None), ((1, 1), 1), ((1, 1), (1, 1)), ([1], 1),
    (HUGE, 10), [1, 1],
)
# Values that are wrong within a tuple, where some of the others would be right.
ODD_ITEMS = (None, True, 1, "1", [1, 1], {}, (), (2, 4), (1, 0), (1, -2), (True, 1), (1, 1, 1))


def wrong(name, values, **fields):
    """Pairs of a wrong value and what it raises."""
    return [(value, (name, fields)) for value in values]


def wrong_items(name, good):
    """Wrong values for a tuple of ratios whose error tells the index."""
    found = []
    for at in range(len(good)):
        for item in ODD_ITEMS:
            found += wrong(name, [good[:at] + (item,) + good[at + 1:]], index=at)
            # A later wrong item is not told.
            if at + 1 < len(good):
                found += wrong(name, [good[:at] + (item,) * (len(good) - at)], index=at)
    return found


WRONG_RATIO = wrong("BadRatio", NOT_RATIOS)
WRONG_POLY = wrong("BadPolynomial", list(NOT_TUPLES) + [
    ((0, 1),), ((1, 1), (0, 1)), (ONE,) * 14, ((0, 1),) * 13, (1,), (1, 2), (ONE, None),
] + [(item, ONE) for item in ODD_ITEMS] + [(ONE, item) for item in ODD_ITEMS])
WRONG_NONZERO = WRONG_POLY + wrong("BadPolynomial", [()])
WRONG_NODES = (
    wrong("BadNodes", NOT_TUPLES + ((), (ONE,) * 9), index=None)
    + wrong_items("BadNodes", ratios(0, 1, 2))
    + wrong("BadNodes", [ratios(1, 0), ratios(1, "1/2", 0)], index=1)
    + wrong("BadNodes", [ratios(1, 1, 0), ratios(1, 2, "3/2", 1), ratios(0, 0, -1, 3)],
            index=2)
    + wrong("BadNodes", [ratios(1, 1, 1, 2, 2, 3, 3, 2)], index=7)
)


def wrong_tuple(name, many):
    """Wrong values for a tuple of so many ratios, many above 0."""
    good = ratios(*range(many))
    values = list(NOT_TUPLES) + [(), good[1:], good + (ONE,), list(good)]
    values += [(item,) + good[1:] for item in ODD_ITEMS]
    values += [good[:-1] + (item,) for item in ODD_ITEMS]
    return wrong(name, values)


WRONG_ROW = (
    wrong("BadRow", NOT_TUPLES + ((), (ONE,) * 10), index=None)
    + wrong_items("BadRow", ratios(2, 1, 0))
    + wrong("BadRow", [(ONE,) * 8 + (1,)], index=8)
)
WRONG_INTERVAL = wrong_tuple("BadInterval", 2) + wrong("BadInterval", [
    ratios(1, 1), ratios(1, 0), ratios("1/2", "1/3"), (0, 1), (1, 2),
])


def wrong_integer(name, least, most):
    return wrong(name, [least - 1, most + 1, -HUGE, HUGE, True, False, None, "1", "", [], [1], {},
                        (), (1,), (1, 1), (0, 1)])


def wrong_knots(degree):
    """Wrong values for knots of a degree."""
    least = degree + 2
    good = ratios(*range(least))
    return (
        wrong("BadKnots", NOT_TUPLES + ((), good[1:], ratios(*range(17)), list(good)), index=None)
        + wrong_items("BadKnots", good)
        + wrong("BadKnots", [(ONE,) * (degree + 1) + (ONE,)], index=degree + 1)
        + wrong("BadKnots", [ratios(0) + (ONE,) * (degree + 2)], index=degree + 2)
        + wrong("BadKnots", [ratios(*range(least), least - 2)], index=least)
        + wrong("BadKnots", [ratios(*range(15), 13)], index=15)
    )

"""Ratios: pairs (n, d) in lowest terms, and arithmetic with them (point 2).

The functions whose names do not stand in the document take what was checked
before.
"""

from math import gcd, lcm

from blendcurves.errors import BadRatio, DividesByZero

ZERO = (0, 1)
ONE = (1, 1)


def ratio(top, low):
    """The ratio of two integers."""
    if not is_whole(top) or not is_whole(low):
        raise BadRatio()
    if low == 0:
        raise DividesByZero()
    return lowest(top, low)


def compare(one, other):
    """-1, 0 or 1: how a ratio stands to another one."""
    check_ratio(one)
    check_ratio(other)
    if is_below(one, other):
        return -1
    if is_below(other, one):
        return 1
    return 0


def is_whole(value):
    """Tell whether a value is an integer; True and False are none."""
    return type(value) is int


def is_ratio(value):
    """Tell whether any value is a ratio."""
    if type(value) is not tuple or len(value) != 2:
        return False
    if not is_whole(value[0]) or not is_whole(value[1]):
        return False
    return value[1] > 0 and gcd(value[0], value[1]) == 1


def check_ratio(value):
    """Raise BadRatio for a value that is no ratio."""
    if not is_ratio(value):
        raise BadRatio()


def lowest(top, low):
    """The ratio of two integers, low not 0."""
    shared = gcd(top, low)
    if low < 0:
        shared = -shared
    return (top // shared, low // shared)


def opposite(number):
    """The ratio that makes 0 with another one."""
    return (-number[0], number[1])


def plus(one, other):
    """The sum of two ratios."""
    return lowest(one[0] * other[1] + other[0] * one[1], one[1] * other[1])


def minus(one, other):
    """The difference of two ratios."""
    return lowest(one[0] * other[1] - other[0] * one[1], one[1] * other[1])


def times(one, other):
    """The product of two ratios."""
    return lowest(one[0] * other[0], one[1] * other[1])


def over(one, other):
    """The quotient of two ratios, other not 0."""
    return lowest(one[0] * other[1], one[1] * other[0])


def is_below(one, other):
    """Tell whether a ratio is less than another one."""
    return one[0] * other[1] < other[0] * one[1]


def total_of(numbers):
    """The sum of ratios."""
    total = ZERO
    for number in numbers:
        total = plus(total, number)
    return total


def between(one, other, part):
    """The ratio that is one for the part 0, other for 1, in proportion elsewhere."""
    return plus(one, times(part, minus(other, one)))


def ascending(numbers):
    """The list of ratios in ascending order, equal ones side by side."""
    whole = 1
    for number in numbers:
        whole = lcm(whole, number[1])
    return sorted(numbers, key=lambda item: item[0] * (whole // item[1]))


def whole_numbers(numbers):
    """The integers in the proportions of ratios, not all 0, without a common divisor above 1.

    The first one that is not 0 is above 0.
    """
    whole, shared = 1, 0
    for number in numbers:
        whole, shared = lcm(whole, number[1]), gcd(shared, number[0])
    # In lowest terms, all tops over shared and the whole over all bottoms have no divisor left.
    first = [number[0] for number in numbers if number != ZERO][0]
    if first < 0:
        shared = -shared
    return tuple([number[0] // shared * (whole // number[1]) for number in numbers])

"""Polynomials: tuples of ratios, their coefficients from the power 0 on (point 3).

The functions whose names do not stand in the document take what was checked
before, and polynomials of any degree.
"""

from blendcurves.checks import HIGHEST_POWER, check_polynomial
from blendcurves.errors import DividesByZero, TooLarge
from blendcurves.ratios import ONE, ZERO, check_ratio, lowest, minus, over, plus, times


def value(poly, x):
    """The value of a polynomial at a ratio."""
    check_polynomial(poly)
    check_ratio(x)
    return value_at(poly, x)


def add(one, other):
    """The sum of two polynomials."""
    check_polynomial(one)
    check_polynomial(other)
    return sum_of(one, other)


def multiply(one, other):
    """The product of two polynomials."""
    check_polynomial(one)
    check_polynomial(other)
    check_size(degree_of(one) + degree_of(other))
    return product_of(one, other)


def divide(one, other):
    """The pair of quotient and rest of two polynomials."""
    check_polynomial(one)
    check_polynomial(other)
    if other == ():
        raise DividesByZero()
    return division_of(one, other)


def common(one, other):
    """The greatest common divisor of two polynomials."""
    check_polynomial(one)
    check_polynomial(other)
    return shared_by(one, other)


def slope(poly):
    """The derivative of a polynomial."""
    check_polynomial(poly)
    return slope_of(poly)


def integral(poly, low, high):
    """The integral of a polynomial from low to high."""
    check_polynomial(poly)
    check_ratio(low)
    check_ratio(high)
    return integral_of(poly, low, high)


def composed(one, other):
    """The polynomial that takes x to one at other at x."""
    check_polynomial(one)
    check_polynomial(other)
    check_size(degree_of(one) * degree_of(other))
    return composition_of(one, other)


def check_size(degree):
    """Raise TooLarge for the degree of an answer that is too great."""
    if degree > HIGHEST_POWER:
        raise TooLarge(HIGHEST_POWER)


def degree_of(poly):
    """The degree of a polynomial, -1 for ()."""
    return len(poly) - 1


def trimmed(numbers):
    """The polynomial with these coefficients, of which the last ones may be 0."""
    many = len(numbers)
    while many > 0 and numbers[many - 1] == ZERO:
        many -= 1
    return tuple(numbers[:many])


def value_at(poly, x):
    """The value of a polynomial at a ratio."""
    top, low = raw_value_at(poly, x)
    return lowest(top, low)


def raw_value_at(poly, x):
    """The value of a polynomial at a ratio as any (top, low) with low above 0."""
    # Counting roots asks for signs alone, and lowest terms would be most of its work.
    top, low = 0, 1
    for number in reversed(poly):
        top = top * x[0] * number[1] + number[0] * low * x[1]
        low = low * x[1] * number[1]
    return (top, low)


def scaled(poly, number):
    """A polynomial times a ratio."""
    return trimmed([times(item, number) for item in poly])


def sum_of(one, other):
    """The sum of two polynomials."""
    numbers = [ZERO] * max(len(one), len(other))
    for at, number in enumerate(one):
        numbers[at] = number
    for at, number in enumerate(other):
        numbers[at] = plus(numbers[at], number)
    return trimmed(numbers)


def product_of(one, other):
    """The product of two polynomials."""
    numbers = [ZERO] * (len(one) + len(other))
    for at, number in enumerate(one):
        for after, factor in enumerate(other):
            numbers[at + after] = plus(numbers[at + after], times(number, factor))
    return trimmed(numbers)


def composition_of(one, other):
    """The polynomial that takes x to one at other at x."""
    answer = ()
    for number in reversed(one):
        answer = sum_of(product_of(answer, other), trimmed([number]))
    return answer


def division_of(one, other):
    """The pair of quotient and rest of two polynomials, other not ()."""
    rest = list(one)
    quotient = []
    while len(rest) >= len(other):
        factor = over(rest[-1], other[-1])
        shift = len(rest) - len(other)
        for at, number in enumerate(other):
            rest[shift + at] = minus(rest[shift + at], times(factor, number))
        rest.pop()
        quotient.append(factor)
    return (trimmed(quotient[::-1]), trimmed(rest))


def monic(poly):
    """A polynomial divided by its last coefficient, () for ()."""
    if poly == ():
        return ()
    return scaled(poly, over(ONE, poly[-1]))


def shared_by(one, other):
    """The greatest common divisor of two polynomials."""
    while other:
        one, other = other, monic(division_of(one, other)[1])
    return monic(one)


def slope_of(poly):
    """The derivative of a polynomial."""
    return tuple([times(number, (power, 1)) for power, number in enumerate(poly)][1:])


def integral_of(poly, low, high):
    """The integral of a polynomial from low to high."""
    whole = [ZERO] + [over(number, (power + 1, 1)) for power, number in enumerate(poly)]
    return minus(value_at(whole, high), value_at(whole, low))

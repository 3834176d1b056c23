"""Curves of two polynomials, their equations, and lines that cross them (point 26)."""

from blendcurves.checks import are_ratios, check_interval, has_length, is_polynomial
from blendcurves.errors import BadCurve, BadData
from blendcurves.polys import scaled, sum_of, trimmed, value_at
from blendcurves.ratios import ONE, ZERO, check_ratio, plus, times, whole_numbers
from blendcurves.resultants import sylvester
from blendcurves.signs import many_roots, root_chain

CURVE_DEGREE = 3


def curve_point(curve, t):
    """The point of a curve at a ratio."""
    check_curve(curve)
    check_ratio(t)
    return (value_at(curve[0], t), value_at(curve[1], t))


def implicit(curve):
    """The pairs ((i, j), number) of the equation that the points of a curve fulfil."""
    check_curve(curve)
    one, other = less_place(curve[0], (1, 0)), less_place(curve[1], (0, 1))
    found = expanded(sylvester(one, other, {}))
    powers = sorted([power for power in found if found[power] != ZERO])
    return tuple(zip(powers, whole_numbers([found[power] for power in powers])))


def crossings(curve, line, interval):
    """How many t with low < t <= high there are at which a curve is on a line, None for all."""
    check_curve(curve)
    if not are_ratios(line, 3) or line[:2] == (ZERO, ZERO):
        raise BadData()
    check_interval(interval)
    poly = sum_of(scaled(curve[0], line[0]), scaled(curve[1], line[1]))
    poly = sum_of(poly, trimmed([line[2]]))
    if poly == ():
        return None
    return many_roots(root_chain(poly), interval)


def check_curve(value):
    """Raise BadCurve for a value that is no curve."""
    if not has_length(value, 2, 2):
        raise BadCurve(None)
    for at, part in enumerate(value):
        if not is_polynomial(part) or not 2 <= len(part) <= CURVE_DEGREE + 1:
            raise BadCurve(at)


def less_place(poly, power):
    """The coefficients of a polynomial less X or Y, each a dict from (i, j) to its number."""
    numbers = [{(0, 0): number} for number in poly]
    numbers[0][power] = (-1, 1)
    return numbers


def expanded(rows):
    """The determinant of a square matrix of dicts from (i, j) to numbers."""
    if not rows:
        return {(0, 0): ONE}
    total = {}
    for column, entry in enumerate(rows[0]):
        if entry:
            minor = expanded([row[:column] + row[column + 1:] for row in rows[1:]])
            sign = (-1, 1) if column & 1 == 1 else ONE
            total = with_product(total, entry, minor, sign)
    return total


def with_product(total, one, other, sign):
    """A sum, more by the product of two others and a sign."""
    found = {power: total[power] for power in total}
    for (i, j), number in one.items():
        for (more, after), factor in other.items():
            power = (i + more, j + after)
            part = times(sign, times(number, factor))
            found[power] = plus(found.get(power, ZERO), part)
    return found

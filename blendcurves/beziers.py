"""Rows of control numbers (points 6 to 8)."""

from math import comb

from blendcurves.blossoms import blossom_at
from blendcurves.checks import ROW_DEGREE, check_degree_of, check_interval, check_polynomial
from blendcurves.checks import check_row
from blendcurves.errors import TooLarge
from blendcurves.polys import product_of, sum_of, trimmed
from blendcurves.ratios import ONE, ZERO, between, check_ratio, lowest, minus, opposite, over
from blendcurves.ratios import plus, times, total_of


def row_of(poly, degree, interval):
    """The row of a degree that tells a polynomial on an interval."""
    check_polynomial(poly)
    check_degree_of(poly, degree, ROW_DEGREE)
    check_interval(interval)
    return row_telling(poly, degree, interval)


def poly_of(row, interval):
    """The polynomial that a row tells on an interval."""
    check_row(row)
    check_interval(interval)
    low, high = interval
    wide = minus(high, low)
    rising = (over(opposite(low), wide), over(ONE, wide))
    return poly_told(row, rising)


def row_value(row, t):
    """The value of a row at any ratio."""
    check_row(row)
    check_ratio(t)
    return row_at(row, t)


def raised(row):
    """The row of one degree more that tells the same polynomial."""
    check_row(row)
    if len(row) > ROW_DEGREE:
        raise TooLarge(ROW_DEGREE)
    return row_raised(row)


def lowered(row):
    """The row of one degree less that tells the same polynomial, None if there is none."""
    check_row(row)
    degree = len(row) - 1
    if degree == 0:
        return None
    lower = [row[0]]
    for at in range(1, degree):
        # Raising makes row[at] of two of the numbers, of which the first one is known here.
        known = times(lowest(at, degree), lower[-1])
        lower.append(over(minus(row[at], known), lowest(degree - at, degree)))
    if lower[-1] != row[-1]:
        return None
    return tuple(lower)


def split(row, t):
    """The pair of rows that tell the polynomial from 0 to t and from t to 1."""
    check_row(row)
    check_ratio(t)
    return split_of(row, t)


def slopes(row):
    """The row of the derivative."""
    check_row(row)
    return slopes_of(row)


def row_product(one, other):
    """The row of the product of two rows."""
    check_row(one)
    check_row(other)
    degree, more = len(one) - 1, len(other) - 1
    if degree + more > ROW_DEGREE:
        raise TooLarge(ROW_DEGREE)
    sums = [ZERO] * (degree + more + 1)
    for at, number in enumerate(one):
        for after, factor in enumerate(other):
            ways = (comb(degree, at) * comb(more, after), 1)
            sums[at + after] = plus(sums[at + after], times(ways, times(number, factor)))
    return tuple([over(item, (comb(degree + more, at), 1)) for at, item in enumerate(sums)])


def row_mean(row):
    """The integral of a row from 0 to 1."""
    check_row(row)
    return over(total_of(row), (len(row), 1))


def row_telling(poly, degree, interval):
    """The row that tells a polynomial; the degree may be above 8 here."""
    low, high = interval
    return tuple([
        blossom_at(poly, (low,) * (degree - at) + (high,) * at) for at in range(degree + 1)
    ])


def poly_told(row, rising):
    """The polynomial of a row, for the polynomial that stands for t."""
    falling = sum_of((ONE,), tuple([opposite(number) for number in rising]))
    step = [trimmed([number]) for number in row]
    while len(step) > 1:
        step = [
            sum_of(product_of(falling, one), product_of(rising, after))
            for one, after in zip(step, step[1:])
        ]
    return step[0]


def row_raised(row):
    """The row of one degree more, whatever the degree."""
    many = len(row)
    inner = [between(row[at], row[at - 1], lowest(at, many)) for at in range(1, many)]
    return (row[0],) + tuple(inner) + (row[-1],)


def slopes_of(row):
    """The row of the derivative, of one degree less."""
    degree = len(row) - 1
    if degree == 0:
        return (ZERO,)
    return tuple([times((degree, 1), minus(after, one)) for one, after in zip(row, row[1:])])


def row_at(row, t):
    """The value of a row at any ratio."""
    return averages_of(row, t)[-1][0]


def averages_of(row, t):
    """The rows that Casteljau's averages make, from the row itself to one number."""
    steps = [row]
    while len(steps[-1]) > 1:
        last = steps[-1]
        steps.append([between(one, after, t) for one, after in zip(last, last[1:])])
    return steps


def split_of(row, t):
    """The pair of rows that tell the polynomial from 0 to t and from t to 1."""
    steps = averages_of(row, t)
    return (tuple([step[0] for step in steps]), tuple([step[-1] for step in steps[::-1]]))

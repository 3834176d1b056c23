"""Shapes: what is never below 0, rising, falling, convex (point 39)."""

from blendcurves.bsplines import pieces_of
from blendcurves.checks import check_interval, check_polynomial, check_spline
from blendcurves.polys import integral_of, scaled, slope_of, value_at
from blendcurves.ratios import ZERO, is_below, minus
from blendcurves.signs import inner_roots


def is_never_below(poly, interval):
    """Tell whether a polynomial is at least 0 from low to high, both included."""
    check_polynomial(poly)
    check_interval(interval)
    return stays_up(poly, interval)


def is_rising(spline):
    """Tell whether the value of a spline is never less than at a place before."""
    check_spline(spline)
    return rises(pieces_of(spline))


def is_falling(spline):
    """Tell whether the value of a spline is never greater than at a place before."""
    check_spline(spline)
    return rises([(interval, scaled(poly, (-1, 1))) for interval, poly in pieces_of(spline)])


def is_convex(spline):
    """Tell whether a spline has no jumps and is never above the line between two of its values."""
    check_spline(spline)
    pieces = pieces_of(spline)
    if [step for step in steps_between(pieces) if step != ZERO]:
        return False
    return rises([(interval, slope_of(poly)) for interval, poly in pieces])


def stays_up(poly, interval):
    """Tell whether a polynomial is at least 0 on an interval."""
    if poly == ():
        return True
    counts = inner_roots(poly, interval)
    # The sign changes at a root that is there an odd number of times, which is counted once more
    # among the counts with an even index than among the others.
    if sum(counts[::2]) != sum(counts[1::2]):
        return False
    return is_below(ZERO, integral_of(poly, interval[0], interval[1]))


def rises(pieces):
    """Tell whether pieces never fall, neither within one nor from each to the next one."""
    if [step for step in steps_between(pieces) if is_below(step, ZERO)]:
        return False
    return all([stays_up(slope_of(poly), interval) for interval, poly in pieces])


def steps_between(pieces):
    """By how much each piece begins above the end of the one before."""
    return [
        minus(value_at(after, interval[0]), value_at(one, interval[0]))
        for (_, one), (interval, after) in zip(pieces, pieces[1:])
    ]

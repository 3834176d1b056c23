"""Splines with more knots or fewer (point 15)."""

from blendcurves.bsplines import active_at, pieces_of, spline_of
from blendcurves.checks import check_knots, check_spline, ends_of
from blendcurves.errors import BadKnots, BadPlace, TooFull
from blendcurves.polys import scaled, slope_of, sum_of, value_at
from blendcurves.ratios import ZERO, ascending, is_below, is_ratio


def inserted(spline, x):
    """The spline of the same function that has the knot x one time more."""
    check_spline(spline)
    check_between(spline, x)
    degree, knots, _ = spline
    if knots.count(x) > degree:
        raise TooFull()
    return spline_of(degree, tuple(ascending(knots + (x,))), pieces_of(spline))


def refined(spline, knots):
    """The spline of the same function with knots that have all of its own."""
    check_spline(spline)
    check_knots(spline[0], knots)
    if missing(knots, spline[1]) or (knots[0], knots[-1]) != ends_of(spline):
        raise BadKnots(None)
    return spline_of(spline[0], knots, pieces_of(spline))


def smoothness(spline, x):
    """The greatest order up to which the derivatives of both sides are equal at a place."""
    check_spline(spline)
    check_between(spline, x)
    return order_at(spline, x)


def removed(spline, x):
    """The spline of the same function that has an inner knot one time less, or None."""
    check_spline(spline)
    check_between(spline, x)
    degree, knots, _ = spline
    times_there = knots.count(x)
    if times_there == 0:
        raise BadPlace()
    if order_at(spline, x) <= degree - times_there:
        return None
    at = knots.index(x)
    return spline_of(degree, knots[:at] + knots[at + 1:], pieces_of(spline))


def check_between(spline, x):
    """Raise BadPlace for a value that is no ratio between both ends."""
    low, high = ends_of(spline)
    if not is_ratio(x) or not is_below(low, x) or not is_below(x, high):
        raise BadPlace()


def missing(knots, needed):
    """The list of the needed knots that do not stand among knots as often."""
    return [
        knot for at, knot in enumerate(needed) if needed[:at + 1].count(knot) > knots.count(knot)
    ]


def order_at(spline, x):
    """The greatest order up to which both sides of a spline join at a place."""
    pieces = pieces_of(spline)
    left = [poly for interval, poly in pieces if is_below(interval[0], x)][-1]
    return shared_order(left, active_at(pieces, x), x, spline[0])


def shared_order(one, other, x, most):
    """The greatest order up to most up to which derivatives are equal at x, -1 for none."""
    rest = sum_of(one, scaled(other, (-1, 1)))
    order = -1
    while order < most and value_at(rest, x) == ZERO:
        rest = slope_of(rest)
        order += 1
    return order

"""Splines of other degrees, sums and products, and splines from pieces (points 16 to 18)."""

from blendcurves.bsplines import active_at, different, pieces_of, spline_of
from blendcurves.checks import KNOT_DEGREE, check_breaks, check_degree, check_number
from blendcurves.checks import check_pieces, check_spline, ends_of
from blendcurves.errors import TooFull, TooLarge
from blendcurves.polys import product_of, slope_of
from blendcurves.ratios import ascending, plus
from blendcurves.refining import missing, shared_order

MOST_BREAKS = 6


def raised_spline(spline):
    """The spline of one degree more with the same function."""
    check_spline(spline)
    degree, knots, _ = spline
    if degree == KNOT_DEGREE:
        raise TooLarge(KNOT_DEGREE)
    more = ascending(list(knots) + different(knots))
    return spline_of(degree + 1, tuple(more), pieces_of(spline))


def slope_spline(spline):
    """The spline of the derivative, of one degree less."""
    check_spline(spline, 1)
    degree, knots, _ = spline
    inner = knots[degree + 1:-degree - 1]
    if [knot for knot in inner if inner.count(knot) > degree]:
        raise TooFull()
    pieces = [(interval, slope_of(poly)) for interval, poly in pieces_of(spline)]
    return spline_of(degree - 1, knots[1:-1], pieces)


def spline_sum(one, other):
    """The spline of the sum of two splines of one degree."""
    check_spline(one)
    check_spline(other, one[0], one[0], ends_of(one))
    degree = one[0]
    knots = tuple(ascending(list(one[1]) + missing(one[1], other[1])))
    first = spline_of(degree, knots, pieces_of(one))
    second = spline_of(degree, knots, pieces_of(other))
    row = [plus(number, more) for number, more in zip(first[2], second[2])]
    return (degree, knots, tuple(row))


def spline_product(one, other):
    """The spline of the product of two splines."""
    check_spline(one)
    check_spline(other, 0, KNOT_DEGREE, ends_of(one))
    degree = one[0] + other[0]
    if degree > KNOT_DEGREE:
        raise TooLarge(KNOT_DEGREE)
    knots = product_knots(one, other)
    breaks = different(knots)
    first, second = pieces_of(one), pieces_of(other)
    pieces = [
        ((low, high), product_of(active_at(first, low), active_at(second, low)))
        for low, high in zip(breaks, breaks[1:])
    ]
    return spline_of(degree, knots, pieces)


def from_pieces(degree, pieces):
    """The spline of a degree with the values of pieces, its inner knots as few as can be."""
    check_degree(degree, 0, KNOT_DEGREE)
    check_pieces(pieces, degree)
    knots = [pieces[0][0][0]] * (degree + 1)
    for one, after in zip(pieces, pieces[1:]):
        x = after[0][0]
        knots += [x] * (degree - shared_order(one[1], after[1], x, degree))
    knots += [pieces[-1][0][1]] * (degree + 1)
    return spline_of(degree, tuple(knots), pieces)


def space_size(breaks, degree, order):
    """How many functions make up all those of a degree that join up to an order at breaks."""
    check_breaks(breaks, 2, MOST_BREAKS)
    check_degree(degree, 0, KNOT_DEGREE)
    check_number(order, -1, degree)
    return degree + 1 + (len(breaks) - 2) * (degree - order)


def product_knots(one, other):
    """The knots of the product of two splines, each as often as the rougher one asks."""
    degree = one[0] + other[0]
    knots = []
    for knot in different(ascending(one[1] + other[1])):
        # How smooth each one is that has the knot; for the ends it is -1.
        orders = [part[0] - part[1].count(knot) for part in (one, other) if knot in part[1]]
        knots += [knot] * (degree - min(orders))
    return tuple(knots)

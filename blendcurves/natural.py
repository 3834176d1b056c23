"""Cubic pieces through data, and how much pieces bend (point 22)."""

from blendcurves.checks import check_breaks, check_data, check_pieces
from blendcurves.dividing import poly_through
from blendcurves.minors import solved
from blendcurves.polys import integral_of, product_of, slope_of
from blendcurves.ratios import ONE, ZERO, minus, over, plus, times

MOST_PLACES = 7
BENDING_DEGREE = 6


def cubics(places, data, slopes):
    """The cubic pieces with these values and derivatives at places."""
    check_breaks(places, 2, MOST_PLACES)
    check_data(data, len(places))
    check_data(slopes, len(places))
    return cubic_pieces(places, data, slopes)


def natural(places, data):
    """The cubic pieces whose second derivatives join and are 0 at the first and the last place."""
    check_breaks(places, 2, MOST_PLACES)
    check_data(data, len(places))
    return cubic_pieces(places, data, natural_slopes(places, data))


def bending(pieces):
    """The integral of the square of the second derivative."""
    check_pieces(pieces, BENDING_DEGREE)
    total = ZERO
    for (low, high), poly in pieces:
        second = slope_of(slope_of(poly))
        total = plus(total, integral_of(product_of(second, second), low, high))
    return total


def cubic_pieces(places, data, slopes):
    """The cubic pieces with these values and derivatives at places."""
    pieces = []
    for at in range(len(places) - 1):
        low, high = places[at], places[at + 1]
        ends = (data[at], slopes[at], data[at + 1], slopes[at + 1])
        pieces.append(((low, high), poly_through((low, low, high, high), ends)))
    return tuple(pieces)


def natural_slopes(places, data):
    """The derivatives at the places of the natural pieces."""
    many = len(places)
    rows = [[ZERO] * many for _ in places]
    right = [ZERO] * many
    for at in range(many - 1):
        wide = minus(places[at + 1], places[at])
        part = over(ONE, wide)
        steep = times((3, 1), over(minus(data[at + 1], data[at]), times(wide, wide)))
        # Half the second derivative of this piece at one of its places is, outward, twice part
        # times the slope there and part times the other slope less steep. At a place those of
        # both pieces add up to 0, at the first and the last place that of the only one is 0.
        for own, other in ((at, at + 1), (at + 1, at)):
            rows[own][own] = plus(rows[own][own], times((2, 1), part))
            rows[own][other] = part
            right[own] = plus(right[own], steep)
    return solved(rows, right)

"""Splines: triples (degree, knots, row), their values and pieces (point 14)."""

from blendcurves.blossoms import blossom_at
from blendcurves.checks import MOST_KNOTS, check_spline, ends_of
from blendcurves.errors import BadPlace, TooMany
from blendcurves.knots import inner_knots, line
from blendcurves.polys import product_of, sum_of, trimmed, value_at
from blendcurves.ratios import is_below, is_ratio, minus, over, times, total_of


def spline_value(spline, x):
    """The value of a spline at a place from end to end."""
    check_spline(spline)
    low, high = ends_of(spline)
    if not is_ratio(x) or is_below(x, low) or is_below(high, x):
        raise BadPlace()
    return value_at(piece_from(spline, last_before(spline, x)), x)


def spline_pieces(spline):
    """The pairs (interval, polynomial) of a spline between its knots."""
    check_spline(spline)
    return pieces_of(spline)


def spline_integral(spline):
    """The integral of a spline from end to end."""
    check_spline(spline)
    degree, knots, row = spline
    wides = [minus(high, low) for low, high in zip(knots, knots[degree + 1:])]
    total = total_of([times(number, wide) for number, wide in zip(row, wides)])
    return over(total, (degree + 1, 1))


def pieces_of(spline):
    """The pairs (interval, polynomial) of a spline between its knots."""
    knots = spline[1]
    pieces = []
    for at in range(len(knots) - 1):
        if knots[at] != knots[at + 1]:
            pieces.append(((knots[at], knots[at + 1]), piece_from(spline, at)))
    return tuple(pieces)


def last_before(spline, x):
    """The number of the last knot that is not above x, of those ahead of the last end."""
    degree, knots, _ = spline
    return len([knot for knot in knots[:-degree - 1] if not is_below(x, knot)]) - 1


def piece_from(spline, at):
    """The polynomial of a spline from the knot number at to the next one, a greater one."""
    degree, knots, row = spline
    step = [trimmed([number]) for number in row[at - degree:at + 1]]
    for many in range(degree, 0, -1):
        lows, highs = knots[at + 1 - many:at + 1], knots[at + 1:at + 1 + many]
        step = [
            sum_of(product_of(line(high, low), one), product_of(line(low, high), after))
            for one, after, low, high in zip(step, step[1:], lows, highs)
        ]
    return step[0]


def active_at(pieces, x):
    """The polynomial of pieces at a place, from its right but at the end of the last one."""
    return [poly for interval, poly in pieces if not is_below(x, interval[0])][-1]


def spline_of(degree, knots, pieces):
    """The spline with these knots that has the values of pieces; TooMany for its knots."""
    if len(knots) > MOST_KNOTS:
        raise TooMany(MOST_KNOTS)
    # Each multiple is a blossom of any polynomial that the basis function reaches.
    row = [
        blossom_at(active_at(pieces, first), inner)
        for first, inner in zip(knots, inner_knots(degree, knots))
    ]
    return (degree, knots, tuple(row))


def different(knots):
    """The different ones of knots, ascending as these."""
    return [knot for at, knot in enumerate(knots) if at == 0 or knots[at - 1] != knot]

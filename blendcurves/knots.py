"""Knots and basis functions (points 12 and 13)."""

from blendcurves.blossoms import blossom_at
from blendcurves.checks import KNOT_DEGREE, check_degree, check_degree_of, check_knots
from blendcurves.checks import check_number, check_polynomial
from blendcurves.polys import product_of, sum_of, value_at
from blendcurves.ratios import ONE, check_ratio, is_below, minus, opposite, over, total_of


def basis_value(degree, knots, index, x):
    """The value of a basis function at a ratio."""
    check_basis(degree, knots, index)
    check_ratio(x)
    return value_at(basis_at(degree, knots, index, x), x)


def basis_pieces(degree, knots, index):
    """The pairs (interval, polynomial) of a basis function between its knots."""
    check_basis(degree, knots, index)
    support = knots[index:index + degree + 2]
    pieces = []
    for low, high in zip(support, support[1:]):
        if low != high:
            pieces.append(((low, high), basis_at(degree, knots, index, low)))
    return tuple(pieces)


def greville(degree, knots):
    """The means of the degree knots behind the first one of each basis function."""
    check_degree(degree, 1, KNOT_DEGREE)
    check_knots(degree, knots)
    return tuple([over(total_of(inner), (degree, 1)) for inner in inner_knots(degree, knots)])


def coefficients(poly, degree, knots):
    """The multiples of the basis functions whose sum is a polynomial."""
    check_polynomial(poly)
    check_degree_of(poly, degree, KNOT_DEGREE)
    check_knots(degree, knots)
    return tuple([blossom_at(poly, inner) for inner in inner_knots(degree, knots)])


def check_basis(degree, knots, index):
    """Raise the error of the first argument that does not name a basis function."""
    check_degree(degree, 0, KNOT_DEGREE)
    check_knots(degree, knots)
    check_number(index, 0, many_basis(degree, knots) - 1)


def many_basis(degree, knots):
    """How many basis functions knots have."""
    return len(knots) - degree - 1


def inner_knots(degree, knots):
    """The knots behind the first one of each basis function, as many as the degree."""
    return [knots[at + 1:at + 1 + degree] for at in range(many_basis(degree, knots))]


def basis_at(degree, knots, index, x):
    """The polynomial that is a basis function from x to the next greater knot."""
    low, high = knots[index], knots[index + degree + 1]
    if is_below(x, low) or not is_below(x, high):
        return ()
    if degree == 0:
        return (ONE,)
    rising = line(low, knots[index + degree])
    falling = line(high, knots[index + 1])
    return sum_of(
        product_of(rising, basis_at(degree - 1, knots, index, x)),
        product_of(falling, basis_at(degree - 1, knots, index + 1, x)),
    )


def line(zero, one):
    """The polynomial of degree 1 that is 0 at zero and 1 at one, () for equal places."""
    # Where the places are equal, the basis function beside it has no interval.
    if zero == one:
        return ()
    wide = minus(one, zero)
    return (over(opposite(zero), wide), over(ONE, wide))

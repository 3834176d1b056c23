"""Sums of basis functions through data, and near them (points 19 and 21)."""

from blendcurves.checks import KNOT_DEGREE, check_data, check_degree, check_knots
from blendcurves.checks import check_polynomial, check_rising
from blendcurves.knots import basis_at, greville, many_basis
from blendcurves.minors import solved
from blendcurves.polys import value_at
from blendcurves.ratios import ZERO, times, total_of

MOST_PLACES = 12


def table_at(degree, knots, places):
    """The rows of the values of all basis functions at places."""
    check_table(degree, knots, places)
    return table_of(degree, knots, places)


def can_fit(degree, knots, places):
    """Tell whether just one sum of basis functions has any values at places."""
    check_fit(degree, knots, places)
    return fits(table_of(degree, knots, places))


def fitted(degree, knots, places, data):
    """The multiples of the basis functions whose sum has data at places, or None."""
    check_fit(degree, knots, places)
    check_data(data, len(places))
    table = table_of(degree, knots, places)
    return solved(table, data) if fits(table) else None


def nearest_row(degree, knots, places, data):
    """The multiples of the basis functions whose sum is nearest to data, or None."""
    check_table(degree, knots, places)
    check_data(data, len(places))
    table = table_of(degree, knots, places)
    columns = list(zip(*table))
    # The sum of squares is least where the errors make 0 with each column (C. F. Gauss).
    normal = [[paired(one, other) for other in columns] for one in columns]
    return solved(normal, [paired(column, data) for column in columns])


def approximant(poly, degree, knots):
    """The values of a polynomial at the means of the knots of each basis function."""
    check_polynomial(poly)
    return tuple([value_at(poly, x) for x in greville(degree, knots)])


def check_table(degree, knots, places):
    """Raise the error of the first argument that is wrong for a table."""
    check_degree(degree, 0, KNOT_DEGREE)
    check_knots(degree, knots)
    many = many_basis(degree, knots)
    check_rising(places, many, max(many, MOST_PLACES))


def check_fit(degree, knots, places):
    """Raise the error of the first argument that is wrong for as many places as functions."""
    check_degree(degree, 0, KNOT_DEGREE)
    check_knots(degree, knots)
    many = many_basis(degree, knots)
    check_rising(places, many, many)


def table_of(degree, knots, places):
    """The rows of the values of all basis functions at places."""
    return tuple([
        tuple([
            value_at(basis_at(degree, knots, index, x), x)
            for index in range(many_basis(degree, knots))
        ])
        for x in places
    ])


def fits(table):
    """Tell whether basis function i is not 0 at place i, for each i."""
    return all([row[at] != ZERO for at, row in enumerate(table)])


def paired(one, other):
    """The sum of the products of numbers that stand at the same place."""
    return total_of([times(number, factor) for number, factor in zip(one, other)])

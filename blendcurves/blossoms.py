"""Blossoms: values of polynomials at several places (point 5)."""

from math import comb

from blendcurves.checks import ROW_DEGREE, check_degree_of, check_places, check_polynomial
from blendcurves.ratios import ONE, ZERO, over, plus, times, total_of


def blossom(poly, degree, places):
    """The blossom of a polynomial, taken as one of a degree, at a tuple of places."""
    check_polynomial(poly)
    check_degree_of(poly, degree, ROW_DEGREE)
    check_places(places, degree)
    return blossom_at(poly, places)


def blossom_at(poly, places):
    """The blossom of a polynomial, taken as one of the degree len(places)."""
    # The power k has as its blossom the mean of the products of k of the places.
    products = place_products(places)
    means = [over(item, (comb(len(places), many), 1)) for many, item in enumerate(products)]
    return total_of([times(number, mean) for number, mean in zip(poly, means)])


def place_products(places):
    """The sums of the products of 0, 1, .. of the places."""
    sums = [ONE]
    for place in places:
        longer = [times(item, place) for item in sums]
        sums = [plus(one, other) for one, other in zip(sums + [ZERO], [ZERO] + longer)]
    return sums

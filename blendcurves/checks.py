"""Checks of arguments: each raises the error of its kind of value."""

from blendcurves.errors import BadData, BadDegree, BadInterval, BadKnots, BadNodes
from blendcurves.errors import BadNumber, BadPieces, BadPlaces, BadPoints, BadPolynomial
from blendcurves.errors import BadRatio, BadRow, BadSpline, BadWeights
from blendcurves.ratios import ONE, ZERO, is_below, is_ratio, is_whole

HIGHEST_POWER = 12
MOST_NODES = 8
MOST_KNOTS = 16
MOST_PIECES = 8
ROW_DEGREE = 8
KNOT_DEGREE = 4


def are_ratios(value, many):
    """Tell whether any value is a tuple of so many ratios."""
    return type(value) is tuple and len(value) == many and all([is_ratio(item) for item in value])


def is_interval(value):
    """Tell whether any value is an interval."""
    return are_ratios(value, 2) and is_below(value[0], value[1])


def is_above_zero(value):
    """Tell whether any value is a ratio above 0."""
    return is_ratio(value) and is_below(ZERO, value)


def is_point(value):
    """Tell whether any value is a point."""
    return are_ratios(value, 2)


def has_length(value, least, most):
    """Tell whether any value is a tuple of least to most items."""
    return type(value) is tuple and least <= len(value) <= most


def is_polynomial(value):
    """Tell whether any value is a polynomial."""
    if not has_length(value, 0, HIGHEST_POWER + 1) or not are_ratios(value, len(value)):
        return False
    return value == () or value[-1] != ZERO


def is_integer(value, least, most):
    """Tell whether any value is an integer from least to most."""
    return is_whole(value) and least <= value <= most


def falls_at(items, at):
    """Tell whether an item is no ratio or less than the one before, a ratio."""
    return not is_ratio(items[at]) or (at > 0 and is_below(items[at], items[at - 1]))


def stays_at(items, at):
    """Tell whether an item is no ratio or not above the one before, a ratio."""
    return falls_at(items, at) or (at > 0 and items[at] == items[at - 1])


def wrong_knot(degree, items):
    """The index of the first item that cannot stand there in knots of a degree, or None."""
    for at in range(len(items)):
        if falls_at(items, at) or (at > degree and items[at - degree - 1] == items[at]):
            return at
    return None


def are_spline_knots(degree, value):
    """Tell whether any value is knots of a degree whose ends stand as often as they may."""
    if not has_length(value, 2 * degree + 2, MOST_KNOTS) or wrong_knot(degree, value) is not None:
        return False
    return value[0] == value[degree] and value[-1] == value[-degree - 1] and value[0] != value[-1]


def is_piece(value, degree):
    """Tell whether any value is a pair (interval, polynomial of at most a degree)."""
    if not has_length(value, 2, 2) or not is_interval(value[0]):
        return False
    return is_polynomial(value[1]) and len(value[1]) <= degree + 1


def check_polynomial(value):
    """Raise BadPolynomial for a value that is no polynomial."""
    if not is_polynomial(value):
        raise BadPolynomial()


def check_nonzero(value):
    """Raise BadPolynomial for a value that is no polynomial or is ()."""
    if not is_polynomial(value) or value == ():
        raise BadPolynomial()


def check_nodes(value):
    """Raise BadNodes for a value that is no nodes."""
    if not has_length(value, 1, MOST_NODES):
        raise BadNodes(None)
    for at in range(len(value)):
        if falls_at(value, at):
            raise BadNodes(at)


def check_data(value, many):
    """Raise BadData for a value that is no tuple of so many ratios."""
    if not are_ratios(value, many):
        raise BadData()


def check_degree(value, least, most):
    """Raise BadDegree for a value that is no integer from least to most."""
    if not is_integer(value, least, most):
        raise BadDegree()


def check_degree_of(poly, value, most):
    """Raise BadDegree for a value that is no degree a polynomial can be taken as one of."""
    check_degree(value, max(len(poly) - 1, 0), most)


def check_places(value, many):
    """Raise BadPlaces for a value that is no tuple of so many ratios."""
    if not are_ratios(value, many):
        raise BadPlaces()


def check_row(value, most=ROW_DEGREE):
    """Raise BadRow for a value that is no row of a degree up to most."""
    if not has_length(value, 1, most + 1):
        raise BadRow(None)
    for at, item in enumerate(value):
        if not is_ratio(item):
            raise BadRow(at)


def check_interval(value):
    """Raise BadInterval for a value that is no interval."""
    if not is_interval(value):
        raise BadInterval()


def check_number(value, least, most):
    """Raise BadNumber for a value that is no integer from least to most."""
    if not is_integer(value, least, most):
        raise BadNumber()


def check_above_zero(value):
    """Raise BadRatio for a value that is no ratio above 0."""
    if not is_above_zero(value):
        raise BadRatio()


def check_knots(degree, value):
    """Raise BadKnots for a value that is no knots of a degree."""
    if not has_length(value, degree + 2, MOST_KNOTS):
        raise BadKnots(None)
    at = wrong_knot(degree, value)
    if at is not None:
        raise BadKnots(at)


def check_breaks(value, least, most):
    """Raise BadNodes for a value that is no tuple of least to most rising ratios."""
    if not has_length(value, least, most):
        raise BadNodes(None)
    for at in range(len(value)):
        if stays_at(value, at):
            raise BadNodes(at)


def check_rising(value, least, most):
    """Raise BadPlaces for a value that is no tuple of least to most rising ratios."""
    if not has_length(value, least, most):
        raise BadPlaces()
    for at in range(len(value)):
        if stays_at(value, at):
            raise BadPlaces()


def check_spline(value, least=0, most=KNOT_DEGREE, ends=None):
    """Raise BadSpline for a value that is no spline of such a degree, with these ends if any."""
    if not has_length(value, 3, 3):
        raise BadSpline(None)
    degree, knots, row = value
    if not is_integer(degree, least, most):
        raise BadSpline(0)
    if not are_spline_knots(degree, knots) or (ends is not None and ends_of(value) != ends):
        raise BadSpline(1)
    if not are_ratios(row, len(knots) - degree - 1):
        raise BadSpline(2)


def ends_of(spline):
    """The first and the last knot of a spline."""
    return (spline[1][0], spline[1][-1])


def check_pieces(value, degree):
    """Raise BadPieces for a value that is no pieces of a degree."""
    if not has_length(value, 1, MOST_PIECES):
        raise BadPieces(None)
    for at, piece in enumerate(value):
        if not is_piece(piece, degree) or (at > 0 and piece[0][0] != value[at - 1][0][1]):
            raise BadPieces(at)


def check_points(value, least, most):
    """Raise BadPoints for a value that is no tuple of least to most points."""
    if not has_length(value, least, most):
        raise BadPoints(None)
    for at, item in enumerate(value):
        if not is_point(item):
            raise BadPoints(at)


def check_weights(value, many):
    """Raise BadWeights for a value that is no tuple of so many ratios above 0."""
    if not has_length(value, many, many) or not all([is_above_zero(item) for item in value]):
        raise BadWeights()


def check_part(value):
    """Raise BadRatio for a value that is no ratio between 0 and 1."""
    if not is_above_zero(value) or not is_below(value, ONE):
        raise BadRatio()

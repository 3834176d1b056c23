"""Weighted rows: rows of numbers with weights (point 40)."""

from blendcurves.beziers import row_at, row_raised, split_of
from blendcurves.checks import check_above_zero, check_part, check_row, check_weights
from blendcurves.errors import TooLarge
from blendcurves.ratios import ONE, ZERO, check_ratio, over, times

WEIGHTED_DEGREE = 4


def weighted_value(row, weights, t):
    """The value of a weighted row at any ratio, None if it would be divided by 0."""
    check_weighted(row, weights)
    check_ratio(t)
    whole = row_at(weights, t)
    if whole == ZERO:
        return None
    return over(row_at(with_weights(row, weights), t), whole)


def weighted_raised(row, weights):
    """The pair (row, weights) of one degree more with the same values."""
    check_weighted(row, weights)
    if len(row) > WEIGHTED_DEGREE:
        raise TooLarge(WEIGHTED_DEGREE)
    return pair_of(row_raised(with_weights(row, weights)), row_raised(weights))


def weighted_split(row, weights, t):
    """The pairs (row, weights) of the parts from 0 to t and from t to 1."""
    check_weighted(row, weights)
    check_part(t)
    products, parts = split_of(with_weights(row, weights), t), split_of(weights, t)
    return (pair_of(products[0], parts[0]), pair_of(products[1], parts[1]))


def retimed(row, weights, factor):
    """The pair of the row and the weights, each times a power of the factor."""
    check_weighted(row, weights)
    check_above_zero(factor)
    found = []
    power = ONE
    for weight in weights:
        found.append(times(weight, power))
        power = times(power, factor)
    return (row, tuple(found))


def check_weighted(row, weights):
    """Raise the error of the first of a row and its weights that is wrong."""
    check_row(row, WEIGHTED_DEGREE)
    check_weights(weights, len(row))


def with_weights(row, weights):
    """The row of the numbers times their weights."""
    return tuple([times(number, weight) for number, weight in zip(row, weights)])


def pair_of(products, weights):
    """The pair (row, weights) whose numbers times their weights are these products."""
    return (tuple([over(number, weight) for number, weight in zip(products, weights)]), weights)

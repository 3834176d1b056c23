"""Terms: pairs ((i, j), number) that stand for number times powers of x and y (point 29)."""

from blendcurves.checks import has_length
from blendcurves.errors import BadTerms
from blendcurves.ratios import ZERO, is_ratio, is_whole


def check_terms(value):
    """Raise BadTerms for a value that is no terms."""
    if type(value) is not tuple or not all([is_term(item) for item in value]):
        raise BadTerms()
    for one, after in zip(value, value[1:]):
        if one[0] >= after[0]:
            raise BadTerms()


def is_term(value):
    """Tell whether any value is a pair ((i, j), number), the number not 0."""
    if not has_length(value, 2, 2) or not has_length(value[0], 2, 2):
        return False
    if not all([is_whole(power) and power >= 0 for power in value[0]]):
        return False
    return is_ratio(value[1]) and value[1] != ZERO


def terms_of(table):
    """The terms whose number for the powers i and j is number j of row i of a table."""
    return tuple([
        ((i, j), number)
        for i, row in enumerate(table)
        for j, number in enumerate(row)
        if number != ZERO
    ])

"""Patches of control numbers for two places (point 38)."""

from blendcurves.beziers import poly_told, row_at, row_raised, row_telling, slopes_of, split_of
from blendcurves.checks import are_ratios, check_degree, check_number, has_length
from blendcurves.errors import BadPatch, TooLarge
from blendcurves.joints import same_start
from blendcurves.ratios import ONE, ZERO, check_ratio
from blendcurves.terms import check_terms, terms_of

PATCH_DEGREE = 4
UNIT = ((0, 1), (1, 1))


def patch_value(patch, s, t):
    """The value of a patch at two ratios."""
    check_patch(patch)
    check_ratio(s)
    check_ratio(t)
    return row_at([row_at(row, t) for row in patch], s)


def patch_row(patch, way, t):
    """The row of the values at the other number when that of a way is t."""
    check_patch(patch)
    check_way(way)
    check_ratio(t)
    return tuple([row_at(row, t) for row in rows_along(patch, way)])


def patch_turned(patch):
    """The patch with both numbers exchanged."""
    check_patch(patch)
    return turned(patch)


def patch_raised(patch, way):
    """The patch of one degree more in a way with the same values."""
    check_patch(patch)
    check_way(way)
    rows = rows_along(patch, way)
    if len(rows[0]) > PATCH_DEGREE:
        raise TooLarge(PATCH_DEGREE)
    return patch_along([row_raised(row) for row in rows], way)


def patch_split(patch, way, t):
    """The pair of patches for both parts in a way."""
    check_patch(patch)
    check_way(way)
    check_ratio(t)
    halves = [split_of(row, t) for row in rows_along(patch, way)]
    return (
        patch_along([half[0] for half in halves], way),
        patch_along([half[1] for half in halves], way),
    )


def patch_slopes(patch, way):
    """The patch of the derivative in a way."""
    check_patch(patch)
    check_way(way)
    return patch_along([slopes_of(row) for row in rows_along(patch, way)], way)


def patch_terms(patch):
    """The terms of the values of a patch, with x for s and y for t."""
    check_patch(patch)
    by_t = turned([powers_of(row) for row in patch])
    return terms_of(turned([powers_of(row) for row in by_t]))


def patch_of(terms, high, wide):
    """The patch of the degrees high and wide whose values have these terms."""
    check_terms(terms)
    check_degree(high, max([i for (i, _), _ in terms], default=0), PATCH_DEGREE)
    check_degree(wide, max([j for (_, j), _ in terms], default=0), PATCH_DEGREE)
    numbers = {power: number for power, number in terms}
    rows = [
        row_telling([numbers.get((i, j), ZERO) for j in range(wide + 1)], wide, UNIT)
        for i in range(high + 1)
    ]
    return turned([row_telling(row, high, UNIT) for row in turned(rows)])


def patch_join(one, other):
    """The greatest order up to which one at s = 1 and other at s = 0 join, -1 for none."""
    check_patch(one)
    check_patch(other)
    if len(one) != len(other) or len(one[0]) != len(other[0]):
        raise BadPatch()
    # The part from 2 to 1, read backward, has the polynomial of one on the interval of other.
    beyond = turned([split_of(row, (2, 1))[1][::-1] for row in turned(one)])
    return same_start(beyond, other) - 1


def check_patch(value):
    """Raise BadPatch for a value that is no patch."""
    most = PATCH_DEGREE + 1
    if not has_length(value, 1, most) or not has_length(value[0], 1, most):
        raise BadPatch()
    if not all([are_ratios(row, len(value[0])) for row in value]):
        raise BadPatch()


def check_way(value):
    """Raise BadNumber for a value that is no way."""
    check_number(value, 0, 1)


def turned(rows):
    """The tuple of the columns of rows."""
    return tuple(zip(*rows))


def rows_along(patch, way):
    """The rows of a patch whose numbers stand behind each other in a way."""
    return patch if way == 1 else turned(patch)


def patch_along(rows, way):
    """The patch whose rows in a way are these."""
    return tuple(rows) if way == 1 else turned(rows)


def powers_of(row):
    """The coefficients of what a row tells from 0 to 1, as many as its numbers."""
    poly = poly_told(row, (ZERO, ONE))
    return poly + (ZERO,) * (len(row) - len(poly))

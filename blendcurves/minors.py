"""Matrices: determinants, and the equations that rows of numbers stand for (point 20)."""

from itertools import combinations

from blendcurves.checks import are_ratios, has_length
from blendcurves.errors import BadMatrix
from blendcurves.ratios import ONE, ZERO, is_below, minus, opposite, over, times

MOST_ROWS = 5


def determinant(matrix):
    """The determinant of a square matrix."""
    check_matrix(matrix)
    if len(matrix) != len(matrix[0]):
        raise BadMatrix(None)
    return determinant_of(matrix)


def least_minor(matrix):
    """The least determinant of any rows and as many columns of a matrix."""
    check_matrix(matrix)
    least = matrix[0][0]
    for many in range(1, min(len(matrix), len(matrix[0])) + 1):
        for rows in combinations(range(len(matrix)), many):
            for columns in combinations(range(len(matrix[0])), many):
                part = [[matrix[row][column] for column in columns] for row in rows]
                found = determinant_of(part)
                if is_below(found, least):
                    least = found
    return least


def check_matrix(value):
    """Raise BadMatrix for a value that is no matrix."""
    if not has_length(value, 1, MOST_ROWS):
        raise BadMatrix(None)
    for at, row in enumerate(value):
        if not has_length(row, 1, MOST_ROWS) or not are_ratios(row, len(value[0])):
            raise BadMatrix(at)


def determinant_of(rows):
    """The determinant of a square matrix of any size."""
    rest = [list(row) for row in rows]
    answer = ONE
    while rest:
        at = first_filled(rest, 0)
        if at is None:
            return ZERO
        if at & 1 == 1:
            answer = opposite(answer)
        lead = rest.pop(at)
        answer = times(answer, lead[0])
        rest = [without(row, lead, 0)[1:] for row in rest]
    return answer


def first_filled(rows, column):
    """The number of the first row that is not 0 in a column, None if there is none."""
    for at, row in enumerate(rows):
        if row[column] != ZERO:
            return at
    return None


def without(row, lead, column):
    """A row less that multiple of lead that makes it 0 in a column."""
    factor = over(row[column], lead[column])
    if factor == ZERO:
        return row
    return [minus(number, times(factor, item)) for number, item in zip(row, lead)]


def solved(rows, right):
    """The only numbers with which the columns add up to right; None if none do, or several."""
    full = [list(row) + [number] for row, number in zip(rows, right)]
    leads, columns = reduced(full)
    if columns != list(range(len(rows[0]))):
        return None
    return tuple([lead[-1] for lead in leads])


def reduced(rows):
    """The pair of rows that say as much as these, and of a column for each of them."""
    # In its column a row has the first of its numbers but 0, a 1, and all other rows have 0.
    rest = [list(row) for row in rows]
    leads = []
    columns = []
    for column in range(len(rows[0])):
        at = first_filled(rest, column)
        if at is not None:
            lead = rest.pop(at)
            lead = [over(number, lead[column]) for number in lead]
            rest = [without(row, lead, column) for row in rest]
            leads = [without(row, lead, column) for row in leads] + [lead]
            columns.append(column)
    return (leads, columns)

"""Conics: as weighted points, and as equations (points 23 and 24)."""

from blendcurves.beziers import row_at, split_of
from blendcurves.checks import check_part, check_points, check_weights, has_length, is_point
from blendcurves.errors import BadEquation, BadPoints
from blendcurves.minors import reduced
from blendcurves.plane import side, turn
from blendcurves.ratios import ONE, ZERO, check_ratio, is_below, is_whole, minus, opposite, over
from blendcurves.ratios import plus, times, total_of, whole_numbers

MANY_POINTS = 3
MANY_TERMS = 6


def conic_point(points, weights, t):
    """The point at t of the curve that three points and weights tell, None if there is none."""
    check_points(points, MANY_POINTS, MANY_POINTS)
    check_weights(weights, MANY_POINTS)
    check_ratio(t)
    x, y, weight = [row_at(row, t) for row in rows_of(points, weights)]
    if weight == ZERO:
        return None
    return (over(x, weight), over(y, weight))


def conic_split(points, weights, t):
    """The pairs (points, weights) that tell the parts of the curve from 0 to t and from t to 1."""
    check_points(points, MANY_POINTS, MANY_POINTS)
    check_weights(weights, MANY_POINTS)
    check_part(t)
    halves = [split_of(row, t) for row in rows_of(points, weights)]
    return (points_of([half[0] for half in halves]), points_of([half[1] for half in halves]))


def conic_kind(weights):
    """The kind of the curve that points tell with these weights."""
    check_weights(weights, MANY_POINTS)
    return kind_of(times(weights[1], weights[1]), times(weights[0], weights[2]))


def equation(points, weights):
    """The equation of the points of a curve, None if its three points are in line."""
    check_points(points, MANY_POINTS, MANY_POINTS)
    check_weights(weights, MANY_POINTS)
    one, two, three = points
    # Each of these is 0 on a side of the triangle, and alike at the corners beyond their sides.
    sides = (side(two, three), side(three, one), side(one, two))
    if turn(one, two, three) == ZERO:
        return None
    # At t they are as u * (1 - t) * (1 - t), 2 * v * t * (1 - t) and w * t * t.
    ahead = times(weights[0], weights[2])
    behind = times((4, 1), times(weights[1], weights[1]))
    middle, outer = side_product(sides[1], sides[1]), side_product(sides[0], sides[2])
    return whole_numbers([
        minus(times(ahead, number), times(behind, more)) for number, more in zip(middle, outer)
    ])


def equation_value(numbers, point):
    """The left side of an equation at a point."""
    check_equation(numbers)
    if not is_point(point):
        raise BadPoints(0)
    return total_of([times((number, 1), term) for number, term in zip(numbers, terms_at(point))])


def equation_kind(numbers):
    """The kind of the curve that an equation stands for."""
    check_equation(numbers)
    a, b, c = numbers[:3]
    return kind_of((b * b, 1), (4 * a * c, 1))


def through_five(points):
    """The equation that five points fulfil, None if there are several."""
    check_points(points, 5, 5)
    leads, columns = reduced([terms_at(point) for point in points])
    if len(columns) < MANY_TERMS - 1:
        return None
    free = [column for column in range(MANY_TERMS) if column not in columns][0]
    numbers = [ONE] * MANY_TERMS
    for lead, column in zip(leads, columns):
        numbers[column] = opposite(lead[free])
    return whole_numbers(numbers)


def check_equation(value):
    """Raise BadEquation for a value that is no equation."""
    if not has_length(value, MANY_TERMS, MANY_TERMS):
        raise BadEquation()
    if not all([is_whole(number) for number in value]) or value[:-1] == (0,) * (MANY_TERMS - 1):
        raise BadEquation()


def kind_of(square, bound):
    """The kind of a curve, as a ratio is less than, equal to or above another one."""
    if is_below(square, bound):
        return "ellipse"
    if is_below(bound, square):
        return "hyperbola"
    return "parabola"


def rows_of(points, weights):
    """The rows of the weighted numbers x, of the weighted numbers y, and of the weights."""
    return [
        [times(weight, point[0]) for point, weight in zip(points, weights)],
        [times(weight, point[1]) for point, weight in zip(points, weights)],
        weights,
    ]


def points_of(rows):
    """The pair of points and weights whose rows are these."""
    points = [(over(x, weight), over(y, weight)) for x, y, weight in zip(rows[0], rows[1], rows[2])]
    return (tuple(points), rows[2])


def side_product(one, other):
    """The numbers, in the order of an equation, of the product of two values a * x + b * y + c."""
    return (
        times(one[0], other[0]),
        crossed(one, other, 0, 1),
        times(one[1], other[1]),
        crossed(one, other, 0, 2),
        crossed(one, other, 1, 2),
        times(one[2], other[2]),
    )


def crossed(one, other, at, after):
    """The sum of both products of a number of one and another number of other."""
    return plus(times(one[at], other[after]), times(one[after], other[at]))


def terms_at(point):
    """What the numbers of an equation are multiplied by at a point."""
    x, y = point
    return (times(x, x), times(x, y), times(y, y), x, y, ONE)

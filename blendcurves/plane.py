"""Points in a plane: the lines through two of them, and how three of them turn."""

from blendcurves.ratios import minus, times, total_of


def side(one, other):
    """The numbers a, b, c whose a * x + b * y + c is 0 on the line through two points."""
    return (
        minus(one[1], other[1]),
        minus(other[0], one[0]),
        minus(times(one[0], other[1]), times(other[0], one[1])),
    )


def side_value(numbers, point):
    """The value of a * x + b * y + c at a point."""
    return total_of([times(numbers[0], point[0]), times(numbers[1], point[1]), numbers[2]])


def turn(one, two, three):
    """Above 0 if three points go around to the left, below 0 to the right, 0 if in line."""
    return side_value(side(two, three), one)

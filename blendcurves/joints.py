"""How nets on triangles side by side join, and pieces around a point (points 30 and 31)."""

from math import comb

from blendcurves.checks import check_degree, check_number, check_points, is_point
from blendcurves.errors import BadCell, BadPlace, BadPoints
from blendcurves.nets import CORNERS, NET_DEGREE, check_net, is_place, net_on
from blendcurves.plane import turn
from blendcurves.ratios import ZERO, is_below

LEAST_RIM = 3
MOST_RIM = 8


def continued(net, place):
    """The net of the same polynomial on the triangle whose first corner a place stands for."""
    check_net(net)
    check_beyond(place)
    return net_on(net, (place, CORNERS[1], CORNERS[2]))


def join_order(one, other, place):
    """The greatest order up to which two nets join along their common side, -1 for none."""
    check_net(one)
    check_net(other, len(one) - 1, len(one) - 1)
    check_beyond(place)
    beyond = net_on(one, (place, CORNERS[1], CORNERS[2]))
    return same_start(layers_of(beyond), layers_of(other)) - 1


def cell_size(center, rim, degree, order):
    """How many functions make up all those of a degree that join up to an order in a cell."""
    check_cell(center, rim)
    check_degree(degree, 0, NET_DEGREE)
    check_number(order, 0, degree)
    lines = many_lines(center, rim)
    rest = [max(order + j + 1 - j * lines, 0) for j in range(1, degree - order + 1)]
    return comb(order + 2, 2) + len(rim) * comb(degree - order + 1, 2) + sum(rest)


def check_beyond(value):
    """Raise BadPlace for a value that is no place beyond the side that the first corner faces."""
    if not is_place(value) or not is_below(value[0], ZERO):
        raise BadPlace()


def check_cell(center, rim):
    """Raise the error of the first of a center and a rim that is wrong for a cell."""
    if not is_point(center):
        raise BadPoints(None)
    check_points(rim, LEAST_RIM, MOST_RIM)
    following = rim[1:] + rim[:1]
    for one, after in zip(rim, following):
        if not is_below(ZERO, turn(center, one, after)):
            raise BadCell()
    # All steps turn to the left by less than a half turn: as often as they come up, they go around.
    upper = [is_below(center[1], point[1]) for point in rim]
    if len([1 for at, now in enumerate(upper) if now and not upper[at - 1]]) != 1:
        raise BadCell()


def many_lines(center, rim):
    """How many different lines there are from a center to the points of a rim."""
    return len([
        1 for at, point in enumerate(rim)
        if not [other for other in rim[:at] if turn(center, other, point) == ZERO]
    ])


def layers_of(net):
    """The numbers of a net that the first corner has a part in 0, 1, .. times."""
    many = len(net)
    return [[net[i][far - i] for i in range(far + 1)] for far in range(many - 1, -1, -1)]


def same_start(one, other):
    """How many items at the start of two lists of the same length are equal."""
    for at, item in enumerate(one):
        if item != other[at]:
            return at
    return len(one)

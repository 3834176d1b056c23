"""Nets of control numbers over triangles (points 27 to 29)."""

from math import comb

from blendcurves.checks import are_ratios, check_degree, has_length, is_point
from blendcurves.errors import BadNet, BadPlace, BadPlaces, BadTriangle, TooLarge
from blendcurves.plane import side, side_value, turn
from blendcurves.ratios import ONE, ZERO, lowest, minus, over, plus, times, total_of
from blendcurves.terms import check_terms, terms_of

NET_DEGREE = 4
CORNERS = (((1, 1), (0, 1), (0, 1)), ((0, 1), (1, 1), (0, 1)), ((0, 1), (0, 1), (1, 1)))


def net_value(net, place):
    """The value of a net at a place."""
    check_net(net)
    check_place(place)
    return blossom_of(net, [place] * (len(net) - 1))


def net_blossom(net, places):
    """The blossom of a net at as many places as its degree."""
    check_net(net)
    degree = len(net) - 1
    if not has_length(places, degree, degree) or not all([is_place(item) for item in places]):
        raise BadPlaces()
    return blossom_of(net, places)


def net_raised(net):
    """The net of one degree more with the same values."""
    check_net(net)
    many = len(net)
    if many > NET_DEGREE:
        raise TooLarge(NET_DEGREE)
    sums = [[ZERO] * (many + 1 - i) for i in range(many + 1)]
    for i, row in enumerate(net):
        for j, number in enumerate(row):
            # A number times u + v + w is shared out among the three numbers around it.
            for high, wide, share in ((i, j, many - i - j), (i + 1, j, i + 1), (i, j + 1, j + 1)):
                part = times(lowest(share, many), number)
                sums[high][wide] = plus(sums[high][wide], part)
    return tuple([tuple(row) for row in sums])


def net_turned(net):
    """The net with the same values, the second, the third and the first corner in this order."""
    check_net(net)
    many = len(net)
    return tuple([tuple([net[many - 1 - i - j][i] for j in range(many - i)]) for i in range(many)])


def net_split(net, place):
    """The nets on the triangles in which a place is the first, the second, the third corner."""
    check_net(net)
    check_place(place)
    one, two, three = CORNERS
    return (
        net_on(net, (place, two, three)),
        net_on(net, (one, place, three)),
        net_on(net, (one, two, place)),
    )


def net_slope(net, step):
    """The net of the derivative along a step, of one degree less."""
    check_net(net)
    if not are_ratios(step, 3) or total_of(step) != ZERO:
        raise BadPlace()
    degree = len(net) - 1
    if degree == 0:
        return ((ZERO,),)
    return tuple([
        tuple([times((degree, 1), number) for number in row]) for row in averaged(net, step)
    ])


def place_of(point, triangle):
    """The place of a triangle that stands for a point."""
    if not is_point(point):
        raise BadPlace()
    check_triangle(triangle)
    return place_at(point, triangle)


def net_terms(net, triangle):
    """The terms of the values of a net at the points of a triangle."""
    check_net(net)
    check_triangle(triangle)
    origin = place_at((ZERO, ZERO), triangle)
    along_x = step_between(origin, place_at((ONE, ZERO), triangle))
    along_y = step_between(origin, place_at((ZERO, ONE), triangle))
    # The term of powers i and j is a multiple of the blossom at i and j steps along x and y.
    blossoms = net_on(net, (origin, along_x, along_y))
    many = len(net)
    return terms_of([
        [times((ways_to_part(many - 1, i, j), 1), blossoms[i][j]) for j in range(many - i)]
        for i in range(many)
    ])


def net_of(terms, degree, triangle):
    """The net of a degree on a triangle whose values have these terms."""
    check_terms(terms)
    check_degree(degree, max([i + j for (i, j), _ in terms], default=0), NET_DEGREE)
    check_triangle(triangle)
    numbers = {power: number for power, number in terms}
    blossoms = [
        [over(numbers.get((i, j), ZERO), (ways_to_part(degree, i, j), 1))
         for j in range(degree + 1 - i)]
        for i in range(degree + 1)
    ]
    # A point (x, y) is the origin, x steps along x and y steps along y.
    return net_on(blossoms, [(ONE, x, y) for x, y in triangle])


def is_net(value, least, most):
    """Tell whether any value is a net of a degree from least to most."""
    if not has_length(value, least + 1, most + 1):
        return False
    return all([are_ratios(row, len(value) - i) for i, row in enumerate(value)])


def check_net(value, least=0, most=NET_DEGREE):
    """Raise BadNet for a value that is no net of a degree from least to most."""
    if not is_net(value, least, most):
        raise BadNet()


def is_place(value):
    """Tell whether any value is a place of a triangle."""
    return are_ratios(value, 3) and total_of(value) == ONE


def check_place(value):
    """Raise BadPlace for a value that is no place of a triangle."""
    if not is_place(value):
        raise BadPlace()


def check_triangle(value):
    """Raise BadTriangle for a value that is no triangle."""
    if not has_length(value, 3, 3) or not all([is_point(item) for item in value]):
        raise BadTriangle()
    if turn(value[0], value[1], value[2]) == ZERO:
        raise BadTriangle()


def ways_to_part(many, second, third):
    """The number of ways to part things into all others, so many second and so many third."""
    return comb(many, second) * comb(many - second, third)


def averaged(net, place):
    """The net of one degree less whose numbers are made of three of a net at a place."""
    u, v, w = place
    return [
        [total_of([times(u, first), times(v, second), times(w, third)])
         for first, second, third in zip(row, after, row[1:])]
        for row, after in zip(net, net[1:])
    ]


def blossom_of(net, places):
    """The blossom of a net; it is linear, so that steps may stand among the places."""
    for place in places:
        net = averaged(net, place)
    return net[0][0]


def net_on(net, corners):
    """The net whose number [i][j] is the blossom at three corners, n - i - j, i and j times."""
    many = len(net)
    first, second, third = corners
    return tuple([
        tuple([
            blossom_of(net, [first] * (many - 1 - i - j) + [second] * i + [third] * j)
            for j in range(many - i)
        ])
        for i in range(many)
    ])


def place_at(point, triangle):
    """The place of a triangle that stands for a point."""
    one, two, three = triangle
    whole = turn(one, two, three)
    sides = (side(two, three), side(three, one), side(one, two))
    return tuple([over(side_value(numbers, point), whole) for numbers in sides])


def step_between(one, other):
    """The step from a place to another one."""
    return [minus(after, before) for before, after in zip(one, other)]

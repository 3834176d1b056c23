"""Polynomials through data, and divided differences (point 4)."""

from math import factorial

from blendcurves.checks import check_data, check_nodes, check_polynomial
from blendcurves.polys import product_of, slope_of, sum_of, trimmed, value_at
from blendcurves.ratios import ONE, minus, opposite, over


def data_of(poly, nodes):
    """The data of a polynomial at nodes."""
    check_polynomial(poly)
    check_nodes(nodes)
    return data_at(poly, nodes)


def through(nodes, data):
    """The polynomial of a degree less than the number of nodes with these data."""
    check_nodes(nodes)
    check_data(data, len(nodes))
    return poly_through(nodes, data)


def divided(nodes, data):
    """The factors of the products of (x - node) whose sum is the polynomial of the data."""
    check_nodes(nodes)
    check_data(data, len(nodes))
    return differences(nodes, data)


def divided_of(poly, nodes):
    """The last one of divided for the data of a polynomial."""
    check_polynomial(poly)
    check_nodes(nodes)
    return differences(nodes, data_at(poly, nodes))[-1]


def data_at(poly, nodes):
    """The data of a polynomial: derivative j at a node that stood j times before."""
    data = []
    for at, node in enumerate(nodes):
        derived = slope_of(derived) if at > 0 and nodes[at - 1] == node else poly
        data.append(value_at(derived, node))
    return tuple(data)


def poly_through(nodes, data):
    """The polynomial of a degree less than the number of nodes with these data."""
    numbers = differences(nodes, data)
    answer = ()
    for node, number in zip(nodes[::-1], numbers[::-1]):
        answer = sum_of(product_of(answer, (opposite(node), ONE)), trimmed([number]))
    return answer


def differences(nodes, data):
    """The first item of each column of the table of divided differences."""
    column = [data[nodes.index(node)] for node in nodes]
    firsts = [column[0]]
    for width in range(1, len(nodes)):
        column = [difference(nodes, data, column, at, width) for at in range(len(nodes) - width)]
        firsts.append(column[0])
    return tuple(firsts)


def difference(nodes, data, column, at, width):
    """The divided difference of the nodes from at to at + width."""
    low, high = nodes[at], nodes[at + width]
    if low == high:
        # Equal nodes have no quotient of differences; a derivative stands in its place.
        return over(data[nodes.index(low) + width], (factorial(width), 1))
    return over(minus(column[at + 1], column[at]), minus(high, low))

"""Point 1: wrong arguments, which error comes first, and that no argument is changed."""

import unittest
from copy import deepcopy

from blendcurves.beziers import lowered, poly_of, raised, row_mean, row_of, row_product, row_value
from blendcurves.beziers import slopes, split
from blendcurves.blossoms import blossom
from blendcurves.bsplines import spline_integral, spline_pieces, spline_value
from blendcurves.conics import conic_kind, conic_point, conic_split, equation, equation_kind
from blendcurves.conics import equation_value, through_five
from blendcurves.desks import Desk
from blendcurves.dividing import data_of, divided, divided_of, through
from blendcurves.fitting import approximant, can_fit, fitted, nearest_row, table_at
from blendcurves.implicit import crossings, curve_point, implicit
from blendcurves.joining import from_pieces, raised_spline, slope_spline, space_size
from blendcurves.joining import spline_product, spline_sum
from blendcurves.joints import cell_size, continued, join_order
from blendcurves.knots import basis_pieces, basis_value, coefficients, greville
from blendcurves.limits import limit_at, limit_values
from blendcurves.masks import contracts, even_odd, four_points, halved, is_passing, norm
from blendcurves.masks import poly_halved, shorter, spline_mask, sum_order
from blendcurves.minors import determinant, least_minor
from blendcurves.natural import bending, cubics, natural
from blendcurves.nets import net_blossom, net_of, net_raised, net_slope, net_split, net_terms
from blendcurves.nets import net_turned, net_value, place_of
from blendcurves.patches import patch_join, patch_of, patch_raised, patch_row, patch_slopes
from blendcurves.patches import patch_split, patch_terms, patch_turned, patch_value
from blendcurves.polys import add, common, composed, divide, integral, multiply, slope, value
from blendcurves.ratios import compare, ratio
from blendcurves.refining import inserted, refined, removed, smoothness
from blendcurves.resultants import discriminant, resultant
from blendcurves.shapes import is_convex, is_falling, is_never_below, is_rising
from blendcurves.signs import all_roots, boxes, chain, changes, counted_roots, is_positive
from blendcurves.signs import positive_degree, roots_in, shows_boxes
from blendcurves.texts import read, write
from blendcurves.weighted import retimed, weighted_raised, weighted_split, weighted_value
from tests.helper import SQUARE, WRONG_INTERVAL, WRONG_NODES, WRONG_NONZERO, WRONG_POLY
from tests.helper import NOT_TUPLES, WRONG_RATIO, WRONG_ROW, Case, alike, outcome, poly, ratios
from tests.helper import wrong, wrong_above_zero, wrong_breaks, wrong_curve, wrong_equation
from tests.helper import wrong_integer, wrong_knots, wrong_line, wrong_mask, wrong_matrix, wrong_net
from tests.helper import wrong_patch, wrong_pieces, wrong_points, wrong_rim, wrong_rising
from tests.helper import wrong_sequence, wrong_short_row, wrong_spline, wrong_terms, wrong_triangle
from tests.helper import wrong_triple, wrong_tuple

WRONG_TOP = wrong("BadRatio", [True, False, None, "1", "", [], [1], {}, (), (1, 1)])
WRONG_LOW = WRONG_TOP + wrong("DividesByZero", [0])
WRONG_DIVISOR = WRONG_POLY + wrong("DividesByZero", [()])

CUBE = poly(1, -3, 0, "2/3")
NODES = ratios(-1, "1/2", "1/2")
DATA = ratios(3, 2, 1)
WRONG_DATA = wrong_tuple("BadData", 3)

ROW = ratios(1, -2, "5/3", 0)
INTERVAL = ratios("-1/2", 3)
KNOTS = ratios(0, 0, 0, 1, 2, 2)
# Of CUBE a degree is at least 3.
WRONG_DEGREE = wrong_integer("BadDegree", 0, 8) + wrong("BadDegree", [0, 1, 2])
WRONG_KNOT_DEGREE = wrong_integer("BadDegree", 0, 4)
WRONG_KNOTS = wrong_knots(2)
WRONG_INDEX = wrong_integer("BadNumber", 0, 2)
WRONG_WIDE = WRONG_RATIO + wrong("BadRatio", [(0, 1), (-1, 2), (-3, 1)])

SPLINE = (2, KNOTS[:3] + ratios(1, 2, 2, 2), ratios(1, "1/2", -3, 0))
# Its function is x, so that its inner knot can be removed.
STRAIGHT = (2, SPLINE[1], ratios(0, "1/2", "3/2", 2))
WRONG_SPLINE = wrong_spline(SPLINE)
WRONG_PLACE = wrong("BadPlace", [item for item, _ in WRONG_RATIO] + [(-1, 1), (9, 4), (-1, 99)])
WRONG_BETWEEN = WRONG_PLACE + wrong("BadPlace", [(0, 1), (2, 1)])
WRONG_INNER = WRONG_BETWEEN + wrong("BadPlace", [(1, 2)])
WRONG_MORE_KNOTS = wrong_knots(2) + wrong("BadKnots", [
    ratios(0, 0, 0, 2, 2, 2), ratios(0, 0, 1, 2, 2, 2), ratios(-1, 0, 0, 0, 1, 2, 2, 2),
], index=None)
PLAIN = (1, ratios(0, 0, 2, 2), ratios(1, 5))
OTHER_ENDS = wrong("BadSpline", [(2, ratios(0, 0, 0, 3, 3, 3), ratios(1, 2, 3)),
                                 (2, ratios(1, 1, 1, 2, 2, 2), ratios(1, 2, 3))], index=1)
PIECES = ((ratios(0, 1), poly(1, 2)), (ratios(1, 3), poly("7/2", 0, "-1/2")))
PLACES = ratios(0, "1/2", 1, "3/2")
MATRIX = (ratios(1, 2), ratios(3, 5))
THREE = (ratios(0, 0), ratios(1, 2), ratios(5, "1/2"))
FIVE = THREE + (ratios(-1, 1), ratios(0, 3))
WEIGHTS = ratios(1, "1/2", 3)
WRONG_THREE, WRONG_FIVE = wrong_points(3, 3), wrong_points(5, 5)
WRONG_WEIGHTS = wrong_above_zero("BadWeights", 3)
WRONG_PART = WRONG_RATIO + wrong("BadRatio", [(0, 1), (1, 1), (-1, 2), (3, 2)])
NUMBERS = (0, 1, -2, 3, 0, 0)
WRONG_POINT = wrong("BadPoints", [item for item, _ in wrong_tuple("BadPoints", 2)], index=0)
CURVE = (poly(0, 1, 1), poly(2, 0, 0, "1/3"))
NET = (ratios(1, 2, "1/3"), ratios(0, -4), ratios("5/2"))
INNER, BEYOND = ratios("1/2", "1/3", "1/6"), ratios(-1, "1/2", "3/2")
WRONG_INNER_PLACE = wrong_triple("BadPlace", 1)
WRONG_BEYOND = WRONG_INNER_PLACE + wrong("BadPlace", [ratios(0, 1, 0), ratios("1/2", 0, "1/2")])
WRONG_NET_PLACES = wrong("BadPlaces", [
    item for item, _ in wrong_tuple("BadPlaces", 2)
] + [(), (INNER,), (INNER,) * 3, [INNER, INNER], (INNER, ratios(1, 1, 0))])
TERMS = (((0, 1), (2, 1)), ((2, 0), (1, 3)))
WRONG_TERMS_DEGREE = wrong_integer("BadDegree", 0, 4) + wrong("BadDegree", [0, 1])
WRONG_CENTER = wrong("BadPoints", [item for item, _ in wrong_tuple("BadPoints", 2)], index=None)
MASK, SEQUENCE = ratios("1/4", "3/4", "3/4", "1/4"), (-3, ratios(1, 0, "1/2"))
WRONG_DYADIC = wrong("BadPlace", [item for item, _ in WRONG_RATIO] + [(1, 3), (1, 128), (5, 6)])
PATCH = (ratios(1, 2, "1/3"), ratios(0, -4, 5))
WRONG_WAY = wrong_integer("BadNumber", 0, 1)
WRONG_TEXT = wrong("NotText", [item for item in NOT_TUPLES if not isinstance(item, str)] + [
    (), ("x",), ["x"], {"x": 1}, b"x", "x" * 201, "!" * 201,
]) + wrong("InvalidText", ["", "y", " x", "+x"], place=1) + wrong("InvalidText", ["x +"], place=4)


def desk_new(spline):
    desk = Desk(spline)
    return (desk.spline, desk.depth)


def desk_put(spline, x):
    desk = Desk(spline)
    return (desk.put(x), desk.spline, desk.depth)


def desk_take(spline, x):
    desk = Desk(spline)
    return (desk.take(x), desk.spline, desk.depth)


def desk_lift(spline):
    desk = Desk(spline)
    return (desk.lift(), desk.spline, desk.depth)


def desk_move(spline, index, number):
    desk = Desk(spline)
    return (desk.move(index, number), desk.spline, desk.depth)


def desk_value(spline, x):
    return Desk(spline).value(x)


# A function, arguments that are right, and for each one the wrong values and their errors.
CALLS = [
    (ratio, (6, 4), (WRONG_TOP, WRONG_LOW)),
    (compare, ((1, 2), (2, 3)), (WRONG_RATIO, WRONG_RATIO)),
    (value, (CUBE, (1, 2)), (WRONG_POLY, WRONG_RATIO)),
    (add, (CUBE, CUBE), (WRONG_POLY, WRONG_POLY)),
    (multiply, (CUBE, CUBE), (WRONG_POLY, WRONG_POLY)),
    (divide, (CUBE, CUBE), (WRONG_POLY, WRONG_DIVISOR)),
    (common, (CUBE, CUBE), (WRONG_POLY, WRONG_POLY)),
    (slope, (CUBE,), (WRONG_POLY,)),
    (integral, (CUBE, (1, 2), (3, 1)), (WRONG_POLY, WRONG_RATIO, WRONG_RATIO)),
    (composed, (CUBE, CUBE), (WRONG_POLY, WRONG_POLY)),
    (data_of, (CUBE, NODES), (WRONG_POLY, WRONG_NODES)),
    (through, (NODES, DATA), (WRONG_NODES, WRONG_DATA)),
    (divided, (NODES, DATA), (WRONG_NODES, WRONG_DATA)),
    (divided_of, (CUBE, NODES), (WRONG_POLY, WRONG_NODES)),
    (blossom, (CUBE, 4, ratios(1, 2, 3, 4)),
     (WRONG_POLY, WRONG_DEGREE, wrong_tuple("BadPlaces", 4))),
    (row_of, (CUBE, 4, INTERVAL), (WRONG_POLY, WRONG_DEGREE, WRONG_INTERVAL)),
    (poly_of, (ROW, INTERVAL), (WRONG_ROW, WRONG_INTERVAL)),
    (row_value, (ROW, (1, 3)), (WRONG_ROW, WRONG_RATIO)),
    (raised, (ROW,), (WRONG_ROW,)),
    (lowered, (ROW,), (WRONG_ROW,)),
    (split, (ROW, (1, 3)), (WRONG_ROW, WRONG_RATIO)),
    (slopes, (ROW,), (WRONG_ROW,)),
    (row_product, (ROW, ROW), (WRONG_ROW, WRONG_ROW)),
    (row_mean, (ROW,), (WRONG_ROW,)),
    (changes, (ROW,), (WRONG_ROW,)),
    (chain, (CUBE,), (WRONG_NONZERO,)),
    (roots_in, (CUBE, INTERVAL), (WRONG_NONZERO, WRONG_INTERVAL)),
    (all_roots, (CUBE,), (WRONG_NONZERO,)),
    (counted_roots, (CUBE, INTERVAL), (WRONG_NONZERO, WRONG_INTERVAL)),
    (is_positive, (CUBE, INTERVAL), (WRONG_POLY, WRONG_INTERVAL)),
    (positive_degree, (CUBE, INTERVAL, 9),
     (WRONG_NONZERO, WRONG_INTERVAL, wrong_integer("BadNumber", 3, 24))),
    (boxes, (CUBE, INTERVAL, (1, 2)), (WRONG_NONZERO, WRONG_INTERVAL, WRONG_WIDE)),
    # No value is wrong as the last one; with another argument wrong, it makes no difference.
    (shows_boxes, (CUBE, INTERVAL, (1, 2), [{1: [()]}]),
     (WRONG_NONZERO, WRONG_INTERVAL, WRONG_WIDE, [])),
    (basis_value, (2, KNOTS, 1, (1, 2)),
     (WRONG_KNOT_DEGREE, WRONG_KNOTS, WRONG_INDEX, WRONG_RATIO)),
    (basis_pieces, (2, KNOTS, 1), (WRONG_KNOT_DEGREE, WRONG_KNOTS, WRONG_INDEX)),
    (greville, (2, KNOTS), (wrong_integer("BadDegree", 1, 4), WRONG_KNOTS)),
    (coefficients, (CUBE, 3, ratios(0, 0, 1, 1, 2, 3)),
     (WRONG_POLY, wrong_integer("BadDegree", 3, 4) + wrong("BadDegree", [0, 1]), wrong_knots(3))),
    (spline_value, (SPLINE, (1, 2)), (WRONG_SPLINE, WRONG_PLACE)),
    (spline_pieces, (SPLINE,), (WRONG_SPLINE,)),
    (spline_integral, (SPLINE,), (WRONG_SPLINE,)),
    (inserted, (SPLINE, (1, 2)), (WRONG_SPLINE, WRONG_BETWEEN)),
    (refined, (SPLINE, SPLINE[1]), (WRONG_SPLINE, WRONG_MORE_KNOTS)),
    (smoothness, (SPLINE, (1, 2)), (WRONG_SPLINE, WRONG_BETWEEN)),
    (removed, (SPLINE, (1, 1)), (WRONG_SPLINE, WRONG_INNER)),
    (raised_spline, (SPLINE,), (WRONG_SPLINE,)),
    (slope_spline, (SPLINE,), (wrong_spline(SPLINE, (0,)),)),
    (spline_sum, (SPLINE, SPLINE),
     (WRONG_SPLINE, wrong_spline(SPLINE, (0, 1, 3, 4)) + OTHER_ENDS)),
    (spline_product, (SPLINE, PLAIN), (WRONG_SPLINE, wrong_spline(PLAIN) + OTHER_ENDS)),
    (from_pieces, (2, PIECES), (WRONG_KNOT_DEGREE, wrong_pieces(2))),
    (space_size, (ratios(0, 1, 3), 3, 2),
     (wrong_breaks(2, 6), WRONG_KNOT_DEGREE, wrong_integer("BadNumber", -1, 3))),
    (table_at, (2, SPLINE[1], PLACES), (WRONG_KNOT_DEGREE, WRONG_KNOTS, wrong_rising(4, 12))),
    (can_fit, (2, SPLINE[1], PLACES), (WRONG_KNOT_DEGREE, WRONG_KNOTS, wrong_rising(4, 4))),
    (fitted, (2, SPLINE[1], PLACES, PLACES),
     (WRONG_KNOT_DEGREE, WRONG_KNOTS, wrong_rising(4, 4), wrong_tuple("BadData", 4))),
    (nearest_row, (2, SPLINE[1], PLACES, PLACES),
     (WRONG_KNOT_DEGREE, WRONG_KNOTS, wrong_rising(4, 12), wrong_tuple("BadData", 4))),
    (approximant, (CUBE, 2, KNOTS), (WRONG_POLY, wrong_integer("BadDegree", 1, 4), WRONG_KNOTS)),
    (determinant, (MATRIX,),
     (wrong_matrix() + wrong("BadMatrix", [MATRIX[:1], (PLACES[:1],) * 2], row=None),)),
    (least_minor, (MATRIX,), (wrong_matrix(),)),
    (cubics, (PLACES, PLACES, PLACES),
     (wrong_breaks(2, 7), wrong_tuple("BadData", 4), wrong_tuple("BadData", 4))),
    (natural, (PLACES, PLACES), (wrong_breaks(2, 7), wrong_tuple("BadData", 4))),
    (bending, (PIECES,), (wrong_pieces(6),)),
    (conic_point, (THREE, WEIGHTS, (3, 2)), (WRONG_THREE, WRONG_WEIGHTS, WRONG_RATIO)),
    (conic_split, (THREE, WEIGHTS, (2, 3)), (WRONG_THREE, WRONG_WEIGHTS, WRONG_PART)),
    (conic_kind, (WEIGHTS,), (WRONG_WEIGHTS,)),
    (equation, (THREE, WEIGHTS), (WRONG_THREE, WRONG_WEIGHTS)),
    (equation_value, (NUMBERS, MATRIX[0]), (wrong_equation(), WRONG_POINT)),
    (equation_kind, (NUMBERS,), (wrong_equation(),)),
    (through_five, (FIVE,), (WRONG_FIVE,)),
    (resultant, (CUBE, CUBE), (WRONG_NONZERO, WRONG_NONZERO)),
    (discriminant, (CUBE,), (WRONG_NONZERO,)),
    (curve_point, (CURVE, (2, 3)), (wrong_curve(), WRONG_RATIO)),
    (implicit, (CURVE,), (wrong_curve(),)),
    (crossings, (CURVE, WEIGHTS, INTERVAL), (wrong_curve(), wrong_line(), WRONG_INTERVAL)),
    (net_value, (NET, INNER), (wrong_net(), WRONG_INNER_PLACE)),
    (net_blossom, (NET, (INNER, BEYOND)), (wrong_net(), WRONG_NET_PLACES)),
    (net_raised, (NET,), (wrong_net(),)),
    (net_turned, (NET,), (wrong_net(),)),
    (net_split, (NET, INNER), (wrong_net(), WRONG_INNER_PLACE)),
    (net_slope, (NET, ratios(1, 2, -3)), (wrong_net(), wrong_triple("BadPlace", 0))),
    (place_of, (MATRIX[0], THREE), (wrong_tuple("BadPlace", 2), wrong_triangle())),
    (net_terms, (NET, THREE), (wrong_net(), wrong_triangle())),
    (net_of, (TERMS, 3, THREE), (wrong_terms(), WRONG_TERMS_DEGREE, wrong_triangle())),
    (continued, (NET, BEYOND), (wrong_net(), WRONG_BEYOND)),
    (join_order, (NET, NET, BEYOND), (wrong_net(), wrong_net((2,)), WRONG_BEYOND)),
    (cell_size, (ratios(0, 0), SQUARE, 3, 1),
     (WRONG_CENTER, wrong_rim(), WRONG_KNOT_DEGREE, wrong_integer("BadNumber", 0, 3))),
    (halved, (MASK, SEQUENCE, 2),
     (wrong_mask(), wrong_sequence(), wrong_integer("BadNumber", 0, 4))),
    (even_odd, (MASK,), (wrong_mask(),)),
    (sum_order, (MASK,), (wrong_mask(),)),
    (shorter, (MASK,), (wrong_mask(),)),
    (poly_halved, (MASK, CUBE), (wrong_mask(), WRONG_POLY)),
    (norm, (MASK, 2), (wrong_mask(), wrong_integer("BadNumber", 1, 5))),
    (contracts, (MASK, 2), (wrong_mask(), wrong_integer("BadNumber", 1, 5))),
    (spline_mask, (3,), (wrong_integer("BadNumber", 0, 8),)),
    (four_points, ((1, 16),), (WRONG_RATIO,)),
    (is_passing, (MASK, 2), (wrong_mask(), wrong_integer("BadNumber", 0, 3))),
    (limit_values, (MASK,), (wrong_mask(),)),
    (limit_at, (MASK, (3, 8)), (wrong_mask(), WRONG_DYADIC)),
    (write, (CUBE,), (WRONG_POLY,)),
    (read, ("2x - 1/2 + x",), (WRONG_TEXT,)),
    (patch_value, (PATCH, (1, 2), (3, 1)), (wrong_patch(), WRONG_RATIO, WRONG_RATIO)),
    (patch_row, (PATCH, 1, (1, 3)), (wrong_patch(), WRONG_WAY, WRONG_RATIO)),
    (patch_turned, (PATCH,), (wrong_patch(),)),
    (patch_raised, (PATCH, 0), (wrong_patch(), WRONG_WAY)),
    (patch_split, (PATCH, 0, (1, 3)), (wrong_patch(), WRONG_WAY, WRONG_RATIO)),
    (patch_slopes, (PATCH, 1), (wrong_patch(), WRONG_WAY)),
    (patch_terms, (PATCH,), (wrong_patch(),)),
    (patch_of, (TERMS, 3, 2),
     (wrong_terms(), WRONG_TERMS_DEGREE, wrong_integer("BadDegree", 0, 4) + wrong("BadDegree", [0]))),
    (patch_join, (PATCH, PATCH), (wrong_patch(), wrong_patch((1, 2)))),
    (is_never_below, (CUBE, INTERVAL), (WRONG_POLY, WRONG_INTERVAL)),
    (is_rising, (SPLINE,), (WRONG_SPLINE,)),
    (is_falling, (SPLINE,), (WRONG_SPLINE,)),
    (is_convex, (SPLINE,), (WRONG_SPLINE,)),
    (weighted_value, (WEIGHTS, WEIGHTS, (1, 3)),
     (wrong_short_row(), WRONG_WEIGHTS, WRONG_RATIO)),
    (weighted_raised, (WEIGHTS, WEIGHTS), (wrong_short_row(), WRONG_WEIGHTS)),
    (weighted_split, (WEIGHTS, WEIGHTS, (1, 3)), (wrong_short_row(), WRONG_WEIGHTS, WRONG_PART)),
    (retimed, (WEIGHTS, WEIGHTS, (1, 3)), (wrong_short_row(), WRONG_WEIGHTS, WRONG_WIDE)),
    (desk_new, (SPLINE,), (WRONG_SPLINE,)),
    (desk_put, (SPLINE, (1, 2)), (WRONG_SPLINE, WRONG_BETWEEN)),
    (desk_take, (STRAIGHT, (1, 1)), (WRONG_SPLINE, WRONG_INNER)),
    (desk_lift, (SPLINE,), (WRONG_SPLINE,)),
    (desk_move, (SPLINE, 1, (1, 2)), (WRONG_SPLINE, wrong_integer("BadNumber", 0, 3), WRONG_RATIO)),
    (desk_value, (SPLINE, (1, 2)), (WRONG_SPLINE, WRONG_PLACE)),
]


def with_item(items, at, item):
    return items[:at] + (item,) + items[at + 1:]


class Arguments(Case):
    def test_right_ones(self):
        for function, good, _ in CALLS:
            self.assertIsNone(outcome(function, good), function)

    def test_each_wrong_one(self):
        for function, good, kinds in CALLS:
            self.assertEqual(len(good), len(kinds))
            for at, kind in enumerate(kinds):
                for item, due in kind:
                    found = outcome(function, with_item(good, at, item))
                    self.assertEqual(found, due, (function, at, kind.index((item, due))))

    def test_leftmost_first(self):
        for function, good, kinds in CALLS:
            for at, kind in enumerate(kinds):
                for later in range(at + 1, len(kinds)):
                    for item, due in kind:
                        # Each later error comes behind each one of the argument ahead of it.
                        for number in range(0, len(kinds[later]), 5):
                            arguments = with_item(good, at, item)
                            arguments = with_item(arguments, later, kinds[later][number][0])
                            self.assertEqual(outcome(function, arguments), due, function)

    def test_all_wrong(self):
        for function, good, kinds in CALLS:
            for item, due in kinds[0]:
                arguments = (item,) + tuple(kind[0][0] if kind else None for kind in kinds[1:])
                self.assertEqual(outcome(function, arguments), due, function)

    def test_unchanged(self):
        for function, good, kinds in CALLS:
            for at, kind in enumerate(kinds):
                for item in [good[at]] + [item for item, _ in kind]:
                    arguments = with_item(good, at, item)
                    before = deepcopy(arguments)
                    outcome(function, arguments)
                    self.assertTrue(alike(arguments, before), function)

    def test_equal_answers(self):
        for function, good, _ in CALLS:
            self.assertTrue(alike(function(*good), function(*deepcopy(good))), function)


if __name__ == "__main__":
    unittest.main()

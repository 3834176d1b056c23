"""The examples of the document, as they stand there, and those of README.md."""

import unittest
from pathlib import Path

from blendcurves.errors import BlendError

EXAMPLES = r"""
>>> from blendcurves.ratios import compare, ratio
>>> [ratio(4, -6), compare((1, 2), (2, 3))]
[(-2, 3), -1]

>>> from blendcurves.polys import composed, divide, integral, multiply, value
>>> x = ((0, 1), (1, 1))
>>> [value(((1, 1), (0, 1), (2, 1)), (1, 2)), multiply(x, x), divide(((-1, 1), (0, 1), (1, 1)), ((1, 1), (1, 1))), integral(x, (0, 1), (1, 1)), composed(multiply(x, x), ((1, 1), (1, 1)))]
[(3, 2), ((0, 1), (0, 1), (1, 1)), (((-1, 1), (1, 1)), ()), (1, 2), ((1, 1), (2, 1), (1, 1))]

>>> from blendcurves.dividing import divided, divided_of, through
>>> nodes, data = ((0, 1), (0, 1), (1, 1)), ((0, 1), (1, 1), (0, 1))
>>> [through(nodes, data), divided(nodes, data), divided_of(((0, 1), (0, 1), (1, 1)), nodes)]
[((0, 1), (1, 1), (-1, 1)), ((0, 1), (1, 1), (-1, 1)), (1, 1)]

>>> from blendcurves.blossoms import blossom
>>> [blossom(((0, 1), (0, 1), (1, 1)), 2, ((1, 1), (3, 1))), blossom(((0, 1), (1, 1)), 2, ((1, 1), (2, 1)))]
[(3, 1), (3, 2)]

>>> from blendcurves.beziers import lowered, poly_of, raised, row_mean, row_value, slopes, split
>>> row = ((0, 1), (1, 1), (0, 1))
>>> [row_value(row, (1, 2)), poly_of(row, ((0, 1), (1, 1))), raised(((0, 1), (1, 1))), lowered(row), split(row, (1, 2)), slopes(row), row_mean(row)]
[(1, 2), ((0, 1), (2, 1), (-2, 1)), ((0, 1), (1, 2), (1, 1)), None, (((0, 1), (1, 2), (1, 2)), ((1, 2), (1, 2), (0, 1))), ((2, 1), (-2, 1)), (1, 3)]

>>> from blendcurves.signs import all_roots, changes, is_positive, positive_degree, roots_in
>>> cube, unit = ((0, 1), (-1, 1), (0, 1), (1, 1)), ((0, 1), (1, 1))
>>> [changes(((1, 1), (0, 1), (-1, 1))), roots_in(cube, ((-1, 1), (1, 1))), all_roots(cube), is_positive(((1, 1),), unit), positive_degree(((1, 3), (-1, 1), (1, 1)), unit, 24)]
[1, 2, 3, True, 5]
>>> from blendcurves.signs import shows_boxes
>>> shows_boxes(((0, 1), (-1, 1), (0, 1), (1, 1)), ((-2, 1), (2, 1)), (1, 1), (((-2, 1), (-1, 1)), ((-1, 1), (0, 1)), ((0, 1), (1, 1))))
True

>>> from blendcurves.knots import basis_pieces, basis_value, coefficients, greville
>>> hat = ((0, 1), (1, 1), (2, 1))
>>> [basis_value(1, hat, 0, (1, 2)), basis_pieces(1, hat, 0), greville(2, ((0, 1),) * 3 + ((1, 1),) * 3), coefficients(((0, 1), (1, 1)), 1, ((0, 1), (0, 1), (1, 1), (1, 1)))]
[(1, 2), ((((0, 1), (1, 1)), ((0, 1), (1, 1))), (((1, 1), (2, 1)), ((2, 1), (-1, 1)))), ((0, 1), (1, 2), (1, 1)), ((0, 1), (1, 1))]

>>> from blendcurves.bsplines import spline_integral, spline_value
>>> spline = (1, ((0, 1), (0, 1), (1, 1), (2, 1), (2, 1)), ((0, 1), (1, 1), (0, 1)))
>>> [spline_value(spline, (1, 2)), spline_integral(spline)]
[(1, 2), (1, 1)]
>>> from blendcurves.bsplines import spline_value
>>> spline_value((0, ((0, 1), (1, 1)), ((5, 1),)), (3, 1))
raises BadPlace

>>> from blendcurves.refining import inserted, removed, smoothness
>>> curve = (2, ((0, 1),) * 3 + ((1, 1),) * 3, ((0, 1), (1, 1), (0, 1)))
>>> more = inserted(curve, (1, 2))
>>> [more, smoothness(more, (1, 2)), removed(more, (1, 2)) == curve]
[(2, ((0, 1), (0, 1), (0, 1), (1, 2), (1, 1), (1, 1), (1, 1)), ((0, 1), (1, 2), (1, 2), (0, 1))), 2, True]

>>> from blendcurves.joining import raised_spline, slope_spline, space_size, spline_product
>>> hat = (1, ((0, 1), (0, 1), (1, 1), (2, 1), (2, 1)), ((0, 1), (1, 1), (0, 1)))
>>> [slope_spline(hat)[2], raised_spline(hat)[2], spline_product(hat, hat)[2], space_size(((0, 1), (1, 1), (2, 1)), 3, 1)]
[((1, 1), (-1, 1)), ((0, 1), (1, 2), (1, 1), (1, 2), (0, 1)), ((0, 1), (0, 1), (1, 1), (0, 1), (0, 1)), 6]

>>> from blendcurves.fitting import can_fit, fitted, nearest_row
>>> hats = ((0, 1), (0, 1), (1, 1), (2, 1), (2, 1))
>>> [can_fit(1, hats, ((0, 1), (1, 2), (1, 1))), fitted(1, hats, ((0, 1), (1, 1), (3, 2)), ((1, 1), (2, 1), (3, 1))), nearest_row(0, ((0, 1), (4, 1)), ((1, 1), (2, 1)), ((1, 1), (4, 1)))]
[False, ((1, 1), (2, 1), (4, 1)), ((5, 2),)]

>>> from blendcurves.minors import determinant, least_minor
>>> [determinant((((1, 1), (2, 1)), ((3, 1), (4, 1)))), least_minor((((1, 1), (1, 1)), ((1, 1), (2, 1))))]
[(-2, 1), (1, 1)]

>>> from blendcurves.natural import bending, natural
>>> pieces = natural(((0, 1), (1, 1), (2, 1)), ((0, 1), (1, 1), (0, 1)))
>>> [pieces[0], bending(pieces)]
[(((0, 1), (1, 1)), ((0, 1), (3, 2), (0, 1), (-1, 2))), (6, 1)]

>>> from blendcurves.conics import conic_kind, conic_point, equation
>>> points, weights = (((1, 1), (0, 1)), ((1, 1), (1, 1)), ((0, 1), (1, 1))), ((1, 1), (1, 1), (2, 1))
>>> [equation(points, weights), conic_kind(weights), conic_point(points, weights, (1, 2))]
[(1, 0, 1, 0, 0, -1), 'ellipse', ((3, 5), (4, 5))]

>>> from blendcurves.resultants import discriminant, resultant
>>> square = ((-1, 1), (0, 1), (1, 1))
>>> [resultant(square, ((-2, 1), (1, 1))), discriminant(square)]
[(3, 1), (4, 1)]

>>> from blendcurves.implicit import crossings, curve_point, implicit
>>> curve = (((0, 1), (0, 1), (1, 1)), ((0, 1), (0, 1), (0, 1), (1, 1)))
>>> [implicit(curve), curve_point(curve, (2, 1)), crossings(curve, ((1, 1), (0, 1), (-1, 1)), ((-2, 1), (2, 1)))]
[(((0, 2), 1), ((3, 0), -1)), ((4, 1), (8, 1)), 2]

>>> from blendcurves.nets import net_raised, net_terms, net_value
>>> net, triangle = (((0, 1), (2, 1)), ((1, 1),)), (((0, 1), (0, 1)), ((1, 1), (0, 1)), ((0, 1), (1, 1)))
>>> [net_value(net, ((1, 3), (1, 3), (1, 3))), net_raised(net), net_terms(net, triangle)]
[(1, 1), (((0, 1), (1, 1), (2, 1)), ((1, 2), (3, 2)), ((1, 1),)), (((0, 1), (2, 1)), ((1, 0), (1, 1)))]

>>> from blendcurves.joints import cell_size, continued, join_order
>>> net, place = (((0, 1), (2, 1)), ((1, 1),)), ((-1, 1), (1, 1), (1, 1))
>>> rim = (((1, 1), (0, 1)), ((0, 1), (1, 1)), ((-1, 1), (0, 1)), ((0, 1), (-1, 1)))
>>> [continued(net, place), join_order(net, continued(net, place), place), cell_size(((0, 1), (0, 1)), rim, 2, 1)]
[(((3, 1), (2, 1)), ((1, 1),)), 1, 8]

>>> from blendcurves.masks import contracts, halved, poly_halved, spline_mask, sum_order
>>> mask = spline_mask(2)
>>> [mask, sum_order(mask), halved(mask, (0, ((4, 1),)), 1), contracts(mask, 1), poly_halved(mask, ((0, 1), (1, 1)))]
[((1, 4), (3, 4), (3, 4), (1, 4)), 3, (0, ((1, 1), (3, 1), (3, 1), (1, 1))), 1, ((-3, 4), (1, 2))]

>>> from blendcurves.limits import limit_at, limit_values
>>> mask = ((1, 4), (3, 4), (3, 4), (1, 4))
>>> [limit_values(mask), limit_at(mask, (3, 2))]
[((0, 1), (1, 2), (1, 2), (0, 1)), (3, 4)]

>>> from blendcurves.texts import read, write
>>> [write(((1, 2), (0, 1), (-1, 1))), read("2x - 1/2 + x")]
['-x^2 + 1/2', ((-1, 2), (3, 1))]
>>> from blendcurves.texts import read
>>> read("x +")
raises InvalidText(place=4)

>>> from blendcurves.patches import patch_join, patch_terms, patch_value
>>> patch = (((0, 1), (0, 1)), ((0, 1), (1, 1)))
>>> [patch_value(patch, (1, 2), (1, 3)), patch_terms(patch), patch_join(patch, (((0, 1), (1, 1)), ((0, 1), (2, 1))))]
[(1, 6), (((1, 1), (1, 1)),), 1]

>>> from blendcurves.shapes import is_convex, is_never_below, is_rising
>>> knots = ((0, 1), (0, 1), (1, 1), (2, 1), (2, 1))
>>> [is_never_below(((1, 4), (-1, 1), (1, 1)), ((0, 1), (1, 1))), is_rising((1, knots, ((0, 1), (1, 1), (0, 1)))), is_convex((1, knots, ((1, 1), (0, 1), (1, 1))))]
[True, False, True]

>>> from blendcurves.weighted import retimed, weighted_raised, weighted_value
>>> row, weights = ((0, 1), (1, 1)), ((1, 1), (3, 1))
>>> [weighted_value(row, weights, (1, 2)), weighted_raised(row, weights), retimed(row, ((1, 1), (1, 1)), (2, 1))]
[(3, 4), (((0, 1), (3, 4), (1, 1)), ((1, 1), (2, 1), (3, 1))), (((0, 1), (1, 1)), ((1, 1), (2, 1)))]

>>> from blendcurves.desks import Desk
>>> desk = Desk((1, ((0, 1), (0, 1), (2, 1), (2, 1)), ((0, 1), (2, 1))))
>>> [desk.put((1, 1)), desk.spline, desk.depth, desk.value((1, 2)), desk.undo(), desk.depth]
[None, (1, ((0, 1), (0, 1), (1, 1), (2, 1), (2, 1)), ((0, 1), (1, 1), (2, 1))), 1, (1, 2), None, 0]
"""


def shown(line, names):
    """What the document shows below a line."""
    try:
        return repr(eval(line, names))
    except BlendError as error:
        fields = ", ".join(f"{name}={value!r}" for name, value in vars(error).items())
        return f"raises {error.__class__.__name__}" + (f"({fields})" if fields else "")


def run_example(text):
    """The pairs of what the lines of an example give and what is shown below them."""
    names = {}
    pairs = []
    lines = text.split("\n")
    for at, line in enumerate(lines):
        if not line.startswith(">>> "):
            continue
        if at + 1 < len(lines) and not lines[at + 1].startswith(">>> "):
            pairs.append((shown(line[4:], names), lines[at + 1]))
        else:
            exec(line[4:], names)
    return pairs


README = Path(__file__).resolve().parent.parent / "README.md"


class Examples(unittest.TestCase):
    def test_readme(self):
        pairs = run_example(README.read_text())
        self.assertGreater(len(pairs), 5)
        for found, due in pairs:
            self.assertEqual(found, due)

    def test_examples(self):
        for text in EXAMPLES.strip().split("\n\n"):
            pairs = run_example(text)
            self.assertTrue(pairs, text)
            for found, due in pairs:
                self.assertEqual(found, due)


if __name__ == "__main__":
    unittest.main()

"""The interface: names, arguments, homes of functions, and the classes of errors."""

import importlib
import inspect
import unittest

from blendcurves import errors
from blendcurves.desks import Desk

ARGUMENTS = {
    "ratios": {"ratio": "top low", "compare": "one other"},
    "polys": {
        "value": "poly x", "add": "one other", "multiply": "one other", "divide": "one other",
        "common": "one other", "slope": "poly", "composed": "one other",
        "integral": "poly low high",
    },
    "dividing": {
        "data_of": "poly nodes", "divided": "nodes data", "through": "nodes data",
        "divided_of": "poly nodes",
    },
    "blossoms": {"blossom": "poly degree places"},
    "beziers": {
        "row_of": "poly degree interval", "poly_of": "row interval", "row_value": "row t",
        "raised": "row", "lowered": "row", "split": "row t", "slopes": "row",
        "row_product": "one other", "row_mean": "row",
    },
    "signs": {
        "changes": "row", "chain": "poly", "roots_in": "poly interval", "all_roots": "poly",
        "counted_roots": "poly interval", "is_positive": "poly interval",
        "positive_degree": "poly interval most", "boxes": "poly interval wide",
        "shows_boxes": "poly interval wide value",
    },
    "knots": {
        "basis_value": "degree knots index x", "basis_pieces": "degree knots index",
        "greville": "degree knots", "coefficients": "poly degree knots",
    },
    "bsplines": {
        "spline_value": "spline x", "spline_integral": "spline", "spline_pieces": "spline",
    },
    "refining": {
        "inserted": "spline x", "refined": "spline knots", "smoothness": "spline x",
        "removed": "spline x",
    },
    "joining": {
        "raised_spline": "spline", "slope_spline": "spline", "spline_sum": "one other",
        "spline_product": "one other", "from_pieces": "degree pieces",
        "space_size": "breaks degree order",
    },
    "fitting": {
        "table_at": "degree knots places", "can_fit": "degree knots places",
        "fitted": "degree knots places data", "nearest_row": "degree knots places data",
        "approximant": "poly degree knots",
    },
    "minors": {"determinant": "matrix", "least_minor": "matrix"},
    "natural": {
        "cubics": "places data slopes", "natural": "places data", "bending": "pieces",
    },
    "conics": {
        "conic_point": "points weights t", "conic_split": "points weights t",
        "conic_kind": "weights", "equation": "points weights",
        "equation_value": "numbers point", "equation_kind": "numbers", "through_five": "points",
    },
    "resultants": {"resultant": "one other", "discriminant": "poly"},
    "implicit": {
        "curve_point": "curve t", "implicit": "curve", "crossings": "curve line interval",
    },
    "nets": {
        "net_value": "net place", "net_blossom": "net places", "net_raised": "net",
        "net_turned": "net", "net_slope": "net step", "net_split": "net place",
        "place_of": "point triangle", "net_terms": "net triangle",
        "net_of": "terms degree triangle",
    },
    "joints": {
        "continued": "net place", "join_order": "one other place",
        "cell_size": "center rim degree order",
    },
    "masks": {
        "halved": "mask sequence many", "even_odd": "mask", "sum_order": "mask", "shorter": "mask",
        "poly_halved": "mask poly", "norm": "mask many", "contracts": "mask most",
        "spline_mask": "degree", "four_points": "weight", "is_passing": "mask at",
    },
    "limits": {"limit_values": "mask", "limit_at": "mask x"},
    "texts": {"write": "poly", "read": "text"},
    "patches": {
        "patch_value": "patch s t", "patch_turned": "patch", "patch_raised": "patch way",
        "patch_slopes": "patch way", "patch_row": "patch way t", "patch_split": "patch way t",
        "patch_terms": "patch", "patch_of": "terms high wide", "patch_join": "one other",
    },
    "shapes": {
        "is_never_below": "poly interval", "is_rising": "spline", "is_falling": "spline",
        "is_convex": "spline",
    },
    "weighted": {
        "weighted_value": "row weights t", "weighted_raised": "row weights",
        "retimed": "row weights factor", "weighted_split": "row weights t",
    },
}
FIELDS = {
    "BadRatio": "", "BadPolynomial": "", "DividesByZero": "", "TooLarge": "most",
    "BadNodes": "index", "BadData": "", "BadDegree": "", "BadPlaces": "", "BadRow": "index",
    "BadInterval": "", "BadNumber": "", "BadKnots": "index", "BadSpline": "index", "BadPlace": "",
    "BadPieces": "index", "TooFull": "", "TooMany": "most", "BadMatrix": "row",
    "BadPoints": "index", "BadWeights": "", "BadCurve": "index", "BadEquation": "",
    "BadNet": "", "BadTriangle": "", "BadTerms": "", "BadCell": "", "BadMask": "",
    "BadSequence": "", "NotText": "", "InvalidText": "place", "BadPatch": "", "NotRemovable": "",
    "NothingToUndo": "",
}
METHODS = {
    "__init__": "self spline", "put": "self x", "take": "self x", "lift": "self",
    "move": "self index number", "undo": "self", "value": "self x",
}


class Interface(unittest.TestCase):
    def test_functions(self):
        for name, functions in ARGUMENTS.items():
            module = importlib.import_module("blendcurves." + name)
            for title, due in functions.items():
                function = getattr(module, title)
                self.assertTrue(inspect.isfunction(function), title)
                self.assertEqual(function.__module__, module.__name__)
                self.assertEqual(list(inspect.signature(function).parameters), due.split())

    def test_desk(self):
        self.assertTrue(inspect.isclass(Desk))
        self.assertEqual(Desk.__module__, "blendcurves.desks")
        for title, due in METHODS.items():
            method = vars(Desk)[title]
            self.assertTrue(inspect.isfunction(method), title)
            self.assertEqual(list(inspect.signature(method).parameters), due.split())
        for title in ("spline", "depth"):
            self.assertIsInstance(vars(Desk)[title], property)

    def test_base(self):
        self.assertEqual(errors.BlendError.__bases__, (ValueError,))
        self.assertEqual(errors.BlendError.__module__, "blendcurves.errors")

    def test_errors(self):
        for name, field in FIELDS.items():
            kind = getattr(errors, name)
            self.assertEqual(kind.__bases__, (errors.BlendError,), name)
            self.assertEqual(kind.__module__, "blendcurves.errors")
            made = kind(7) if field else kind()
            self.assertEqual(vars(made), {field: 7} if field else {})


if __name__ == "__main__":
    unittest.main()

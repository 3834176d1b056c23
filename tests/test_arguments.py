"""Point 1: wrong arguments, which error comes first, and that no argument is changed."""

import unittest
from copy import deepcopy

from blendcurves.dividing import data_of, divided, divided_of, through
from blendcurves.polys import add, common, composed, divide, integral, multiply, slope, value
from blendcurves.ratios import compare, ratio
from tests.helper import WRONG_NODES, WRONG_POLY, WRONG_RATIO, Case, alike, outcome, poly, ratios
from tests.helper import wrong, wrong_tuple

WRONG_TOP = wrong("BadRatio", [True, False, None, "1", "", [], [1], {}, (), (1, 1)])
WRONG_LOW = WRONG_TOP + wrong("DividesByZero", [0])
WRONG_DIVISOR = WRONG_POLY + wrong("DividesByZero", [()])

CUBE = poly(1, -3, 0, "2/3")
NODES = ratios(-1, "1/2", "1/2")
DATA = ratios(3, 2, 1)
WRONG_DATA = wrong_tuple("BadData", 3)

# A function, arguments that are right, and for each one the wrong values and their errors.
CALLS = [
    (ratio, (6, 4), (WRONG_TOP, WRONG_LOW)),
    (compare, ((1, 2), (2, 3)), (WRONG_RATIO, WRONG_RATIO)),
    (value, (CUBE, (1, 2)), (WRONG_POLY, WRONG_RATIO)),
    (add, (CUBE, CUBE), (WRONG_POLY, WRONG_POLY)),
    (multiply, (CUBE, CUBE), (WRONG_POLY, WRONG_POLY)),
    (divide, (CUBE, CUBE), (WRONG_POLY, WRONG_DIVISOR)),
    (common, (CUBE, CUBE), (WRONG_POLY, WRONG_POLY)),
    (slope, (CUBE,), (WRONG_POLY,)),
    (integral, (CUBE, (1, 2), (3, 1)), (WRONG_POLY, WRONG_RATIO, WRONG_RATIO)),
    (composed, (CUBE, CUBE), (WRONG_POLY, WRONG_POLY)),
    (data_of, (CUBE, NODES), (WRONG_POLY, WRONG_NODES)),
    (through, (NODES, DATA), (WRONG_NODES, WRONG_DATA)),
    (divided, (NODES, DATA), (WRONG_NODES, WRONG_DATA)),
    (divided_of, (CUBE, NODES), (WRONG_POLY, WRONG_NODES)),
]


def with_item(items, at, item):
    return items[:at] + (item,) + items[at + 1:]


class Arguments(Case):
    def test_right_ones(self):
        for function, good, _ in CALLS:
            self.assertIsNone(outcome(function, good), function)

    def test_each_wrong_one(self):
        for function, good, kinds in CALLS:
            self.assertEqual(len(good), len(kinds))
            for at, kind in enumerate(kinds):
                for item, due in kind:
                    found = outcome(function, with_item(good, at, item))
                    self.assertEqual(found, due, (function, at, kind.index((item, due))))

    def test_leftmost_first(self):
        for function, good, kinds in CALLS:
            for at, kind in enumerate(kinds):
                for later in range(at + 1, len(kinds)):
                    for item, due in kind:
                        # Each later error comes behind each one of the argument ahead of it.
                        for number in range(0, len(kinds[later]), 5):
                            arguments = with_item(good, at, item)
                            arguments = with_item(arguments, later, kinds[later][number][0])
                            self.assertEqual(outcome(function, arguments), due, function)

    def test_all_wrong(self):
        for function, good, kinds in CALLS:
            for item, due in kinds[0]:
                arguments = (item,) + tuple(kind[0][0] for kind in kinds[1:])
                self.assertEqual(outcome(function, arguments), due, function)

    def test_unchanged(self):
        for function, good, kinds in CALLS:
            for at, kind in enumerate(kinds):
                for item in [good[at]] + [item for item, _ in kind]:
                    arguments = with_item(good, at, item)
                    before = deepcopy(arguments)
                    outcome(function, arguments)
                    self.assertTrue(alike(arguments, before), function)

    def test_equal_answers(self):
        for function, good, _ in CALLS:
            self.assertTrue(alike(function(*good), function(*deepcopy(good))), function)


if __name__ == "__main__":
    unittest.main()

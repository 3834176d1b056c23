"""Point 41: a desk."""

import unittest
from copy import deepcopy

from blendcurves.bsplines import spline_value
from blendcurves.desks import Desk
from blendcurves.joining import raised_spline
from blendcurves.refining import inserted, removed
from tests.helper import HUGE, NOT_TUPLES, WRONG_RATIO, Case, Source, alike, breaks_of, outcome
from tests.helper import ratio_of, ratios, within, wrong_integer, wrong_spline

PLAIN = (1, ratios(0, 0, 2, 2), ratios(0, 2))
CURVE = (2, ratios(0, 0, 0, 1, 3, 3, 3), ratios(1, "1/2", -3, 4))
FULL = (0, ratios(*range(16)), ratios(*range(15)))
TORN = (2, ratios(0, 0, 0, 1, 1, 1, 3, 3, 3), ratios(0, 1, 2, 5, 0, 1))
LIFTED = (4, ratios(*[0] * 5, *[2] * 5), ratios(*range(5)))


def moved(spline, index, number):
    degree, knots, row = spline
    return (degree, knots, row[:index] + (number,) + row[index + 1:])


class Steps(Case):
    def is_at(self, desk, spline, depth):
        self.same(desk.spline, spline)
        self.same(desk.depth, depth)

    def test_new(self):
        for spline in (PLAIN, CURVE, FULL, TORN, LIFTED):
            self.is_at(Desk(spline), spline, 0)

    def test_put(self):
        desk = Desk(PLAIN)
        self.assertIsNone(desk.put((1, 1)))
        self.is_at(desk, (1, ratios(0, 0, 1, 2, 2), ratios(0, 1, 2)), 1)
        self.assertIsNone(desk.put((1, 1)))
        self.is_at(desk, (1, ratios(0, 0, 1, 1, 2, 2), ratios(0, 1, 1, 2)), 2)
        self.assertEqual(outcome(desk.put, ((1, 1),)), ("TooFull", {}))

    def test_take(self):
        desk = Desk(inserted(CURVE, (2, 1)))
        self.assertIsNone(desk.take((2, 1)))
        self.is_at(desk, CURVE, 1)
        self.assertEqual(outcome(desk.take, ((1, 1),)), ("NotRemovable", {}))
        self.assertEqual(outcome(desk.take, ((2, 1),)), ("BadPlace", {}))
        self.is_at(desk, CURVE, 1)

    def test_lift(self):
        desk = Desk(PLAIN)
        self.assertIsNone(desk.lift())
        self.is_at(desk, (2, ratios(0, 0, 0, 2, 2, 2), ratios(0, 1, 2)), 1)

    def test_move(self):
        desk = Desk(CURVE)
        for index in range(4):
            self.assertIsNone(desk.move(index, (-7, 2)))
        self.is_at(desk, (2, CURVE[1], ratios(*["-7/2"] * 4)), 4)
        desk = Desk(CURVE)
        self.assertIsNone(desk.move(0, CURVE[2][0]))
        # A step is one also where it changes nothing.
        self.is_at(desk, CURVE, 1)

    def test_undo(self):
        desk = Desk(PLAIN)
        self.assertEqual(outcome(desk.undo, ()), ("NothingToUndo", {}))
        seen = [PLAIN]
        for step in (lambda: desk.put((1, 2)), lambda: desk.move(1, (9, 1)), desk.lift,
                     lambda: desk.put((1, 1)), lambda: desk.take((1, 1)), desk.lift,
                     lambda: desk.move(0, (1, 3))):
            step()
            seen.append(desk.spline)
            self.same(desk.depth, len(seen) - 1)
        while len(seen) > 1:
            self.same(desk.spline, seen.pop())
            self.assertIsNone(desk.undo())
            self.is_at(desk, seen[-1], len(seen) - 1)
        for _ in range(2):
            self.assertEqual(outcome(desk.undo, ()), ("NothingToUndo", {}))
            self.is_at(desk, PLAIN, 0)
        desk.put((1, 1))
        self.same(desk.depth, 1)

    def test_value(self):
        desk = Desk(CURVE)
        for step in (None, lambda: desk.put((2, 1)), lambda: desk.lift(), desk.undo, desk.undo,
                     lambda: desk.move(1, (0, 1))):
            if step:
                step()
            for x in ratios(0, "1/2", 1, 2, "5/2", 3):
                self.same(desk.value(x), spline_value(desk.spline, x))
        for x in [item for item, _ in WRONG_RATIO] + [(-1, 1), (7, 2), (HUGE, 1)]:
            self.assertEqual(outcome(desk.value, (x,)), ("BadPlace", {}))
        self.same(desk.depth, 1)

    def test_the_functions(self):
        source = Source(411)
        for number in range(12):
            spline = source.spline(source.random.randint(0, 3), 2)
            desk, states = Desk(spline), [spline]
            for _ in range(14):
                now = states[-1]
                breaks = breaks_of(now)
                x = ratio_of(source.random.choice(breaks + within(breaks[0], breaks[-1], 3)))
                index, item = source.random.randint(0, len(now[2])), ratio_of(source.number())
                due = source.random.choice([
                    ("put", (x,), inserted, (now, x)), ("take", (x,), removed, (now, x)),
                    ("lift", (), raised_spline, (now,)), ("move", (index, item), moved, (now, index, item)),
                    ("undo", (), None, ()),
                ])
                self.one_step(desk, states, *due)
                for place in ratios(*within(breaks[0], breaks[-1], 4)):
                    self.same(desk.value(place), spline_value(states[-1], place))

    def one_step(self, desk, states, name, arguments, function, others):
        """Take one step of a desk, and the same step with the states that are due."""
        found = outcome(getattr(desk, name), arguments)
        if name == "undo":
            due = ("NothingToUndo", {}) if len(states) == 1 else None
            states[1:] = states[1:-1]
        elif name == "move" and arguments[0] == len(states[-1][2]):
            due = ("BadNumber", {})
        else:
            due = outcome(function, others)
            answer = None if due else function(*others)
            if due is None and answer is None:
                due = ("NotRemovable", {})
            if due is None:
                states.append(answer)
        self.assertEqual(found, due)
        self.is_at(desk, states[-1], len(states) - 1)

    def test_two_desks(self):
        one, other = Desk(PLAIN), Desk(PLAIN)
        one.lift()
        self.is_at(other, PLAIN, 0)
        self.is_at(one, raised_spline(PLAIN), 1)


class Refused(Case):
    def refuses(self, spline, name, arguments, error, **fields):
        """A new desk, and one with steps behind it, refuse a call and are left as they were."""
        for many in (0, 2):
            desk = Desk(spline)
            for _ in range(many):
                desk.move(0, spline[2][0])
            before = deepcopy(arguments)
            self.assertEqual(outcome(getattr(desk, name), arguments), (error, fields))
            self.assertTrue(alike(arguments, before))
            self.same(desk.spline, spline)
            self.same(desk.depth, many)
            for _ in range(many):
                desk.undo()
            self.assertEqual(outcome(desk.undo, ()), ("NothingToUndo", {}))
            self.same(desk.value(spline[1][0]), spline_value(spline, spline[1][0]))

    def test_put(self):
        for x in [item for item, _ in WRONG_RATIO] + [(0, 1), (3, 1), (-1, 1), (4, 1)]:
            self.refuses(CURVE, "put", (x,), "BadPlace")
        self.refuses(TORN, "put", ((1, 1),), "TooFull")
        self.refuses(FULL, "put", ((1, 2),), "TooMany", most=16)
        self.refuses(FULL, "put", ((1, 1),), "TooFull")

    def test_take(self):
        for x in [item for item, _ in WRONG_RATIO] + [(0, 1), (3, 1), (-1, 1), (4, 1), (2, 1), (1, 2)]:
            self.refuses(CURVE, "take", (x,), "BadPlace")
        self.refuses(CURVE, "take", ((1, 1),), "NotRemovable")
        self.refuses(TORN, "take", ((1, 1),), "NotRemovable")

    def test_lift(self):
        self.refuses(LIFTED, "lift", (), "TooLarge", most=4)
        self.refuses(FULL, "lift", (), "TooMany", most=16)

    def test_move(self):
        for index, _ in wrong_integer("BadNumber", 0, 3):
            self.refuses(CURVE, "move", (index, (1, 2)), "BadNumber")
            self.refuses(CURVE, "move", (index, None), "BadNumber")
        for number, _ in WRONG_RATIO:
            self.refuses(CURVE, "move", (2, number), "BadRatio")

    def test_new(self):
        for item, due in wrong_spline(CURVE):
            self.assertEqual(outcome(Desk, (item,)), due)
        for item in NOT_TUPLES:
            self.assertEqual(outcome(Desk, (item,)), ("BadSpline", {"index": None}))


if __name__ == "__main__":
    unittest.main()

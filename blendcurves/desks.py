"""A desk: a spline that is changed step by step (point 41)."""

from blendcurves.bsplines import spline_value
from blendcurves.checks import check_number, check_spline
from blendcurves.errors import NothingToUndo, NotRemovable
from blendcurves.joining import raised_spline
from blendcurves.ratios import check_ratio
from blendcurves.refining import inserted, removed


class Desk:
    """A spline that is changed by steps, each of which can be taken back."""

    def __init__(self, spline):
        check_spline(spline)
        # All splines that there were and were not taken back, the one as it is now last.
        self._states = [spline]

    @property
    def spline(self):
        """The spline as it is now."""
        return self._states[-1]

    @property
    def depth(self):
        """How many steps can be taken back."""
        return len(self._states) - 1

    def put(self, x):
        """Give the spline the knot x one time more."""
        self._states.append(inserted(self._states[-1], x))

    def take(self, x):
        """Take the inner knot x from the spline one time."""
        found = removed(self._states[-1], x)
        if found is None:
            raise NotRemovable()
        self._states.append(found)

    def lift(self):
        """Make the spline one of one degree more."""
        self._states.append(raised_spline(self._states[-1]))

    def move(self, index, number):
        """Give the number at an index of the row another value."""
        degree, knots, row = self._states[-1]
        check_number(index, 0, len(row) - 1)
        check_ratio(number)
        self._states.append((degree, knots, row[:index] + (number,) + row[index + 1:]))

    def undo(self):
        """Take the last step back that was not taken back."""
        if len(self._states) == 1:
            raise NothingToUndo()
        self._states.pop()

    def value(self, x):
        """The value of the spline at a place from end to end."""
        return spline_value(self._states[-1], x)

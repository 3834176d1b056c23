"""The errors of the package."""


class BlendError(ValueError):
    """The base class of all errors of the package."""


class BadRatio(BlendError):
    """A value is not a ratio, or not one of those that are allowed there."""


class BadPolynomial(BlendError):
    """A value is not a polynomial, or it is () where that is not allowed."""


class DividesByZero(BlendError):
    """Something would be divided by 0."""


class TooLarge(BlendError):
    """The degree of an answer, or how many digits a number has, would be above most."""

    def __init__(self, most):
        self.most = most


class BadNodes(BlendError):
    """A value is not nodes; index tells the first wrong item, None the whole."""

    def __init__(self, index):
        self.index = index


class BadData(BlendError):
    """A value is not data of the nodes."""


class BadDegree(BlendError):
    """A value is not a degree, or one below that of the polynomial."""


class BadPlaces(BlendError):
    """A value is not a tuple of as many places as are due."""


class BadRow(BlendError):
    """A value is not a row; index tells the first wrong item, None the whole."""

    def __init__(self, index):
        self.index = index


class BadInterval(BlendError):
    """A value is not an interval."""


class BadNumber(BlendError):
    """A value is not one of the integers that are allowed there."""


class BadKnots(BlendError):
    """A value is not knots; index tells the first wrong item, None the whole."""

    def __init__(self, index):
        self.index = index


class BadSpline(BlendError):
    """A value is not a spline; index tells the first wrong part, None the whole."""

    def __init__(self, index):
        self.index = index


class BadPlace(BlendError):
    """A value is not a place, or not one of those that are allowed there."""


class BadPieces(BlendError):
    """A value is not pieces; index tells the first wrong item, None the whole."""

    def __init__(self, index):
        self.index = index


class TooFull(BlendError):
    """A knot stands as often as it may already."""


class TooMany(BlendError):
    """An answer would have more than most knots."""

    def __init__(self, most):
        self.most = most


class BadMatrix(BlendError):
    """A value is not a matrix; row tells the first wrong row, None the whole."""

    def __init__(self, row):
        self.row = row


class BadPoints(BlendError):
    """A value is not points; index tells the first wrong item, None the whole."""

    def __init__(self, index):
        self.index = index


class BadWeights(BlendError):
    """A value is not a tuple of as many ratios above 0 as are due."""


class BadCurve(BlendError):
    """A value is not a curve; index tells the first wrong part, None the whole."""

    def __init__(self, index):
        self.index = index


class BadEquation(BlendError):
    """A value is not an equation."""


class BadNet(BlendError):
    """A value is not a net, or not one of the degree that is due."""


class BadTriangle(BlendError):
    """A value is not three points that are not in line."""


class BadTerms(BlendError):
    """A value is not an ascending tuple of terms."""


class BadCell(BlendError):
    """The points of a rim do not go around the center once, to the left."""


class BadMask(BlendError):
    """A value is not a mask."""


class BadSequence(BlendError):
    """A value is not a sequence."""


class NotText(BlendError):
    """A value is not a string, or too long a one."""


class InvalidText(BlendError):
    """A text is of no polynomial; place tells, from 1, the first sign that cannot stand there."""

    def __init__(self, place):
        self.place = place


class BadPatch(BlendError):
    """A value is not a patch, or not one of the degrees that are due."""


class NotRemovable(BlendError):
    """A knot cannot be removed without another function."""


class NothingToUndo(BlendError):
    """There is no step that was not taken back."""

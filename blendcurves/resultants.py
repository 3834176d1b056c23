"""Resultants and discriminants of polynomials (point 25)."""

from blendcurves.checks import check_nonzero
from blendcurves.minors import determinant_of
from blendcurves.polys import degree_of, slope_of
from blendcurves.ratios import ONE, ZERO, opposite, over


def resultant(one, other):
    """The determinant of the rows of the coefficients of two polynomials (J. Sylvester)."""
    check_nonzero(one)
    check_nonzero(other)
    return determinant_of(sylvester(one, other, ZERO))


def discriminant(poly):
    """The resultant with the derivative over the last coefficient, with the sign that is due."""
    check_nonzero(poly)
    degree = degree_of(poly)
    if degree < 2:
        return ONE
    answer = over(determinant_of(sylvester(poly, slope_of(poly), ZERO)), poly[-1])
    if degree * (degree - 1) // 2 & 1 == 1:
        return opposite(answer)
    return answer


def sylvester(one, other, zero):
    """The rows of the coefficients of two polynomials, which may be of any kind with a zero."""
    return shifted(one, len(other) - 1, zero) + shifted(other, len(one) - 1, zero)


def shifted(poly, many, zero):
    """So many rows of coefficients, the greatest power first, each beginning a column later."""
    falling = list(poly[::-1])
    return [[zero] * at + falling + [zero] * (many - 1 - at) for at in range(many)]

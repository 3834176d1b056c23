"""Masks: rules by which sequences are halved (points 32 to 34 and 36)."""

from math import comb

from blendcurves.checks import are_ratios, check_number, check_polynomial, has_length, is_integer
from blendcurves.errors import BadMask, BadSequence
from blendcurves.polys import composition_of, scaled, sum_of, trimmed
from blendcurves.ratios import ONE, ZERO, ascending, check_ratio, is_below, lowest, minus, opposite
from blendcurves.ratios import plus, times, total_of

MOST_NUMBERS = 10
FARTHEST_START = 999
LONGEST_SEQUENCE = 40
MOST_HALVINGS = 4
MOST_FOR_NORM = 5
MASK_DEGREE = 8


def halved(mask, sequence, many):
    """A sequence halved so many times by a mask."""
    check_mask(mask)
    check_sequence(sequence)
    check_number(many, 0, MOST_HALVINGS)
    start, numbers = sequence
    for _ in range(many):
        start, numbers = 2 * start, halved_once(mask, numbers)
    numbers = trimmed(numbers)
    if numbers == ():
        return (0, ())
    first = [at for at, number in enumerate(numbers) if number != ZERO][0]
    return (start + first, numbers[first:])


def even_odd(mask):
    """The pair of the sums of the numbers at even and at odd places."""
    check_mask(mask)
    return (total_of(mask[::2]), total_of(mask[1::2]))


def sum_order(mask):
    """How often the polynomial of a mask can be divided by 1 + x without a rest."""
    check_mask(mask)
    many = 0
    rest = quotient_of(mask)
    while rest is not None:
        many += 1
        rest = quotient_of(rest)
    return many


def shorter(mask):
    """The coefficients of the first quotient by 1 + x, None if there is a rest."""
    check_mask(mask)
    return quotient_of(mask)


def poly_halved(mask, poly):
    """The polynomial whose values at integers are those of another one halved, or None."""
    check_mask(mask)
    check_polynomial(poly)
    sums = [(), ()]
    for place, number in enumerate(mask):
        # At integers i of the same kind as the place, the number stands beside (i - place) / 2.
        moved = composition_of(poly, (lowest(-place, 2), (1, 2)))
        sums[place & 1] = sum_of(sums[place & 1], scaled(moved, number))
    return sums[0] if sums[0] == sums[1] else None


def norm(mask, many):
    """The greatest sum of sizes that a number is multiplied by, for so many halvings."""
    check_mask(mask)
    check_number(many, 1, MOST_FOR_NORM)
    return norm_of(mask, many)


def contracts(mask, most):
    """The least number of halvings up to most for which the norm of shorter is below 1, or None."""
    check_mask(mask)
    check_number(most, 1, MOST_FOR_NORM)
    quotient = quotient_of(mask)
    if quotient is None or even_odd(mask) != (ONE, ONE):
        return None
    for many in range(1, most + 1):
        if is_below(norm_of(quotient, many), ONE):
            return many
    return None


def spline_mask(degree):
    """The mask of the basis function of a degree with the knots 0, 1, 2, .."""
    check_number(degree, 0, MASK_DEGREE)
    return tuple([lowest(comb(degree + 1, k), 1 << degree) for k in range(degree + 2)])


def four_points(weight):
    """The mask that puts a number between four others with a weight."""
    check_ratio(weight)
    far, near = opposite(weight), plus((1, 2), weight)
    if far == ZERO:
        return (near, ONE, near)
    return (far, ZERO, near, ONE, near, ZERO, far)


def is_passing(mask, at):
    """Tell whether a mask has 1 at a place and 0 at even distances from it."""
    check_mask(mask)
    check_number(at, 0, len(mask) - 1)
    return all([
        number == (ONE if place == at else ZERO)
        for place, number in enumerate(mask) if (place - at) & 1 == 0
    ])


def check_mask(value):
    """Raise BadMask for a value that is no mask."""
    if not has_length(value, 2, MOST_NUMBERS) or not are_ratios(value, len(value)):
        raise BadMask()
    if value[0] == ZERO or value[-1] == ZERO:
        raise BadMask()


def check_sequence(value):
    """Raise BadSequence for a value that is no sequence."""
    if not has_length(value, 2, 2) or not is_integer(value[0], -FARTHEST_START, FARTHEST_START):
        raise BadSequence()
    numbers = value[1]
    if not has_length(numbers, 0, LONGEST_SEQUENCE) or not are_ratios(numbers, len(numbers)):
        raise BadSequence()


def halved_once(mask, numbers):
    """The numbers of a sequence halved, from the place 2 * start on."""
    sums = [ZERO] * (len(mask) + 2 * len(numbers) - 2)
    for at, number in enumerate(numbers):
        for after, factor in enumerate(mask):
            sums[2 * at + after] = plus(sums[2 * at + after], times(factor, number))
    return sums


def quotient_of(numbers):
    """The coefficients of the quotient of a polynomial by 1 + x, None if there is a rest."""
    quotient = []
    last = ZERO
    for number in numbers:
        last = minus(number, last)
        quotient.append(last)
    return tuple(quotient[:-1]) if last == ZERO else None


def norm_of(mask, many):
    """The norm of a mask or of a quotient of one."""
    made = [ONE]
    for _ in range(many):
        made = halved_once(mask, made)
    step = 1 << many
    sums = [
        total_of([(abs(top), low) for top, low in made[rest::step]]) for rest in range(step)
    ]
    return ascending(sums)[-1]

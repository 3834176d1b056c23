"""Signs of polynomials and their roots (points 9 to 11)."""

from math import gcd, lcm

from blendcurves.beziers import row_raised, row_telling
from blendcurves.checks import check_above_zero, check_interval, check_nonzero, check_number
from blendcurves.checks import check_polynomial, check_row, has_length, is_interval
from blendcurves.polys import degree_of, division_of, raw_value_at, scaled, shared_by, slope_of
from blendcurves.polys import value_at
from blendcurves.ratios import ZERO, between, is_below, lowest, minus

HIGHEST_DEGREE = 24


def changes(row):
    """How often the sign of the numbers of a row changes, zeros left out."""
    check_row(row)
    return sign_changes([number[0] for number in row])


def chain(poly):
    """The polynomial, its derivative and the opposites of the rests that follow."""
    check_nonzero(poly)
    return links_of(poly, False)


def roots_in(poly, interval):
    """How many different roots x a polynomial has with low < x <= high."""
    check_nonzero(poly)
    check_interval(interval)
    return many_roots(root_chain(poly), interval)


def all_roots(poly):
    """How many different roots a polynomial has."""
    check_nonzero(poly)
    links = root_chain(poly)
    far_right = [link[-1][0] for link in links]
    far_left = [link[-1][0] if degree_of(link) & 1 == 0 else -link[-1][0] for link in links]
    return sign_changes(far_left) - sign_changes(far_right)


def counted_roots(poly, interval):
    """How many roots x with low < x < high there are, each as often as it is one."""
    check_nonzero(poly)
    check_interval(interval)
    return sum(inner_roots(poly, interval))


def is_positive(poly, interval):
    """Tell whether a polynomial is above 0 from low to high, both included."""
    check_polynomial(poly)
    check_interval(interval)
    if not is_below(ZERO, value_at(poly, interval[0])):
        return False
    return many_roots(root_chain(poly), interval) == 0


def positive_degree(poly, interval, most):
    """The least degree up to most of which all numbers of the row are above 0, or None."""
    check_nonzero(poly)
    check_interval(interval)
    check_number(most, degree_of(poly), HIGHEST_DEGREE)
    row = row_telling(poly, degree_of(poly), interval)
    while not all([is_below(ZERO, number) for number in row]):
        if len(row) > most:
            return None
        row = row_raised(row)
    return len(row) - 1


def boxes(poly, interval, wide):
    """Ascending intervals, none wider than wide, with just one root in each."""
    check_nonzero(poly)
    check_interval(interval)
    check_above_zero(wide)
    links = root_chain(poly)
    found = []
    waiting = [interval]
    while waiting:
        part = waiting.pop()
        many = many_roots(links, part)
        if many == 1 and is_narrow(part, wide):
            found.append(part)
        elif many > 0:
            middle = between(part[0], part[1], (1, 2))
            # The left half comes last, so that it is taken first and found ascends.
            waiting.append((middle, part[1]))
            waiting.append((part[0], middle))
    return tuple(found)


def shows_boxes(poly, interval, wide, value):
    """Tell whether any value is boxes of a polynomial on an interval."""
    check_nonzero(poly)
    check_interval(interval)
    check_above_zero(wide)
    links = root_chain(poly)
    # As many boxes as roots, apart and with one root each: then no root is without a box.
    many = many_roots(links, interval)
    if not has_length(value, many, many):
        return False
    end = interval[0]
    for box in value:
        if not is_interval(box) or is_below(box[0], end) or not is_narrow(box, wide):
            return False
        if many_roots(links, box) != 1:
            return False
        end = box[1]
    return not is_below(interval[1], end)


def links_of(poly, shrinks):
    """The chain of a polynomial that is not (), its links made short if shrinks says so."""
    links = [poly]
    following = slope_of(poly)
    while following:
        links.append(shortened(following) if shrinks else following)
        following = scaled(division_of(links[-2], links[-1])[1], (-1, 1))
    return tuple(links)


def shortened(poly):
    """The multiple by a ratio above 0 whose coefficients are integers without a divisor."""
    top, low = 1, 0
    for number in poly:
        top, low = lcm(top, number[1]), gcd(low, number[0])
    return scaled(poly, lowest(top, low))


def root_chain(poly):
    """A chain of the polynomial that has each root of a polynomial once."""
    # At a repeated root all links of the polynomial's own chain are 0. Short links tell
    # the same signs, and their numbers grow far less from each one to the next.
    return links_of(division_of(poly, shared_by(poly, slope_of(poly)))[0], True)


def many_roots(links, interval):
    """How many roots with low < x <= high there are, for a chain without repeated ones."""
    low, high = interval
    return changes_at(links, low) - changes_at(links, high)


def inner_roots(poly, interval):
    """How many roots with low < x < high are there at least once, twice and so on."""
    counts = []
    rest = poly
    # A root that is there m times is a root of the first m of these divisors.
    while degree_of(rest) > 0:
        many = many_roots(root_chain(rest), interval)
        if value_at(rest, interval[1]) == ZERO:
            many -= 1
        counts.append(many)
        rest = shared_by(rest, slope_of(rest))
    return counts


def changes_at(links, x):
    """How often the sign changes along the values of a chain at a ratio."""
    return sign_changes([raw_value_at(link, x)[0] for link in links])


def sign_changes(numbers):
    """How often the sign of integers changes, zeros left out."""
    kept = [number for number in numbers if number != 0]
    return len([1 for one, after in zip(kept, kept[1:]) if (one > 0) != (after > 0)])


def is_narrow(interval, wide):
    """Tell whether an interval is not wider than wide."""
    return not is_below(wide, minus(interval[1], interval[0]))

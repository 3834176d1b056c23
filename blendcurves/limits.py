"""The functions that halving comes near to (point 35)."""

from blendcurves.errors import BadPlace
from blendcurves.masks import check_mask
from blendcurves.minors import solved
from blendcurves.ratios import ONE, ZERO, is_ratio, minus, times, total_of

BOTTOMS = (1, 2, 4, 8, 16, 32, 64)


def limit_values(mask):
    """The values at 0, 1, .. of the function of a mask, None if there are none or several."""
    check_mask(mask)
    return values_of(mask)


def limit_at(mask, x):
    """The value of the function of a mask at a ratio with a power of 2 as its bottom, or None."""
    check_mask(mask)
    if not is_ratio(x) or x[1] not in BOTTOMS:
        raise BadPlace()
    values = values_of(mask)
    if values is None:
        return None
    step = 1
    while step < x[1]:
        values = finer(mask, values, step)
        step = 2 * step
    return values[x[0]] if 0 <= x[0] < len(values) else ZERO


def values_of(mask):
    """The values at 0, 1, .. of the function of a mask, None if there are none or several."""
    places = range(len(mask))
    rows = [[equation_part(mask, j, at) for at in places] for j in places]
    right = [ZERO for _ in places]
    return solved(rows + [[ONE for _ in places]], right + [ONE])


def equation_part(mask, j, at):
    """What f(at) is multiplied by in the sum that makes f(j), less f(j)."""
    place = 2 * j - at
    number = mask[place] if 0 <= place < len(mask) else ZERO
    return minus(number, ONE) if j == at else number


def finer(mask, values, step):
    """The values at all places i / (2 * step), from those at all places i / step."""
    return [
        total_of([
            times(number, values[at - k * step])
            for k, number in enumerate(mask) if 0 <= at - k * step < len(values)
        ])
        for at in range(2 * len(values) - 1)
    ]

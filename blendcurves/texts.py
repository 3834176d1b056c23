"""Texts of polynomials (point 37)."""

from blendcurves.checks import HIGHEST_POWER, check_polynomial
from blendcurves.errors import DividesByZero, InvalidText, NotText, TooLarge
from blendcurves.polys import trimmed
from blendcurves.ratios import ONE, ZERO, is_below, lowest, opposite, plus

MOST_DIGITS = 1000
MOST_SIGNS = 200
DIGITS = "0123456789"
VARIABLE = "x"


def write(poly):
    """The text of a polynomial."""
    check_polynomial(poly)
    bound = least_too_long()
    for top, low in poly:
        if abs(top) >= bound or low >= bound:
            raise TooLarge(MOST_DIGITS)
    text = ""
    for power in range(len(poly) - 1, -1, -1):
        if poly[power] != ZERO:
            text += joint(text == "", is_below(poly[power], ZERO)) + term_text(poly[power], power)
    return text if text != "" else "0"


def read(text):
    """The polynomial of a text."""
    if type(text) is not str or len(text) > MOST_SIGNS:
        raise NotText()
    numbers = [ZERO] * (HIGHEST_POWER + 1)
    below = has_at(text, 0, "-")
    at = 1 if below else 0
    while True:
        number, power, at = term_at(text, at)
        numbers[power] = plus(numbers[power], opposite(number) if below else number)
        if at == len(text):
            return trimmed(numbers)
        check_sign(text, at, " ")
        check_sign(text, at + 1, "+-")
        check_sign(text, at + 2, " ")
        below = has_at(text, at + 1, "-")
        at += 3


def least_too_long():
    """The least integer that has too many digits."""
    # The digits of a number are not counted in a string: Python makes none of very many digits.
    bound = 1
    for _ in range(MOST_DIGITS):
        bound = 10 * bound
    return bound


def joint(is_first, is_below_zero):
    """What stands ahead of a term."""
    if is_first:
        return "-" if is_below_zero else ""
    return " - " if is_below_zero else " + "


def term_text(number, power):
    """The text of a term without its sign."""
    size = (abs(number[0]), number[1])
    if power == 0:
        return number_text(size)
    shown = VARIABLE if power == 1 else VARIABLE + "^" + str(power)
    return shown if size == ONE else number_text(size) + shown


def number_text(number):
    """The text of a ratio."""
    if number[1] == 1:
        return str(number[0])
    return str(number[0]) + "/" + str(number[1])


def has_at(text, at, sign):
    """Tell whether a text has a sign at an index, which may be its end."""
    return text[at:at + 1] == sign


def check_sign(text, at, allowed):
    """Raise InvalidText if a text ends at an index or has another sign there."""
    if at >= len(text) or text[at] not in allowed:
        raise InvalidText(at + 1)


def term_at(text, at):
    """The number and the power of the term at an index, and the index behind it."""
    number, power = ONE, 0
    if not has_at(text, at, VARIABLE):
        number, at = number_at(text, at)
    if has_at(text, at, VARIABLE):
        power, at = power_at(text, at + 1)
    return (number, power, at)


def number_at(text, at):
    """The number at an index, and the index behind it."""
    top, at = digits_at(text, at)
    if not has_at(text, at, "/"):
        return ((top, 1), at)
    low, at = digits_at(text, at + 1)
    if low == 0:
        raise DividesByZero()
    return (lowest(top, low), at)


def power_at(text, at):
    """The power whose x stands ahead of an index, and the index behind it."""
    if not has_at(text, at, "^"):
        return (1, at)
    power, at = digits_at(text, at + 1)
    if power > HIGHEST_POWER:
        raise TooLarge(HIGHEST_POWER)
    return (power, at)


def digits_at(text, at):
    """The integer of the digits at an index, and the index behind them."""
    check_sign(text, at, DIGITS)
    end = at
    while end < len(text) and text[end] in DIGITS:
        end += 1
    return (int(text[at:end]), end)

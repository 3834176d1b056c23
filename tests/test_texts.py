"""Point 37: texts of polynomials."""

import re
import unittest
from fractions import Fraction

from blendcurves.texts import read, write
from tests.helper import HUGE, NOT_TUPLES, WRONG_POLY, Case, Source, number_of, outcome, poly, ratio_of

LIMIT = 10 ** 1000
SIGNS = "0123456789x^/+- "
OTHER_SIGNS = "!.,*()yXe_=\n\t\\\"'%~\u00b2\u0663\u2212\u00a0\u0000\U0001d7d8"
# What may follow behind each kind of sign, and whether the text may end there.
FOLLOWING = {
    "start": {"-": "begin", "digit": "number", "x": "x"},
    "begin": {"digit": "number", "x": "x"},
    "number": {"digit": "number", "/": "slash", "x": "x", " ": "blank", "end": None},
    "slash": {"digit": "divisor"},
    "divisor": {"digit": "divisor", "x": "x", " ": "blank", "end": None},
    "x": {"^": "hat", " ": "blank", "end": None},
    "hat": {"digit": "power"},
    "power": {"digit": "power", " ": "blank", "end": None},
    "blank": {"+": "sign", "-": "sign"},
    "sign": {" ": "begin"},
}


def kind_of(sign):
    return "digit" if sign in tuple("0123456789") else sign


def error_of(text):
    """What reading a text raises, by going on from sign to sign; None if nothing."""
    state, digits = "start", ""
    for at, sign in enumerate(list(text) + ["end"]):
        following = FOLLOWING[state].get(kind_of(sign), "wrong")
        if following != state and state == "divisor" and int(digits) == 0:
            return ("DividesByZero", {})
        if following != state and state == "power" and int(digits) > 12:
            return ("TooLarge", {"most": 12})
        if following == "wrong":
            return ("InvalidText", {"place": at + 1})
        digits = digits + sign if following == state else sign
        state = following
    return None


def polynomial_of(text):
    """The polynomial of a right text, term by term."""
    numbers = {}
    for sign, top, low, x, power in re.findall(r"(-|\+ )?(?:- )?(\d*)(?:/(\d+))?(x?)(?:\^(\d+))?",
                                               text.replace(" - ", " + -")):
        if top or x:
            number = Fraction(int(top or 1), int(low or 1))
            key = int(power or 1) if x else 0
            numbers[key] = numbers.get(key, 0) + (-number if sign == "-" else number)
    return poly(*[numbers.get(power, 0) for power in range(13)])


def text_of(polynomial):
    """The text that the document tells, put together from the least power on."""
    parts = []
    for power, item in enumerate(polynomial):
        number = number_of(item)
        if number:
            size = str(abs(number))
            if power:
                size = ("" if size == "1" else size) + ("x" if power == 1 else f"x^{power}")
            parts = [" - " if number < 0 else " + ", size] + parts
    if not parts:
        return "0"
    return {" - ": "-", " + ": ""}[parts[0]] + "".join(parts[1:])


def right_text(source):
    """A text of up to 200 signs."""
    pick = source.random
    text = pick.choice(["", "-"])
    for at in range(pick.randint(1, 6)):
        if at:
            text += pick.choice([" + ", " - "])
        number = pick.choice(["", "0", "1", "007", str(pick.randint(0, 10 ** 9)), "6/4", "0/5", "12/012"])
        power = pick.choice(["", "x", "x^0", "x^1", "x^12", "x^007", "x^2", "x^" + str(pick.randint(0, 12))])
        text += number + power if number + power else "5"
    return text


class Write(Case):
    def test_ordinary(self):
        for numbers, due in [
            (("1/2", 0, -1), "-x^2 + 1/2"), ((), "0"), ((1,), "1"), ((-1,), "-1"), ((7,), "7"),
            (("-3/2",), "-3/2"), ((0, 1), "x"), ((0, -1), "-x"), ((1, 1), "x + 1"),
            ((-1, -1), "-x - 1"), ((0, 2), "2x"), ((0, "1/2"), "1/2x"), ((0, "-5/3"), "-5/3x"),
            ((0, 0, 1), "x^2"), ((0, 0, -1), "-x^2"), ((1, 0, 0, "4/3"), "4/3x^3 + 1"),
            ((1, -1, 1, -1), "-x^3 + x^2 - x + 1"), ((-2, 0, 10), "10x^2 - 2"),
            ((0, 3, 0, -1), "-x^3 + 3x"), ([0] * 12 + [-11], "-11x^12"), ([0] * 10 + [1], "x^10"),
        ]:
            self.same(write(poly(*numbers)), due)

    def test_many(self):
        source = Source(371)
        for degree in range(-1, 13):
            for _ in range(12):
                numbers = [source.random.choice([0, 1, -1, source.number(), source.number()])
                           for _ in range(degree + 1)]
                self.same(write(poly(*numbers)), text_of(poly(*numbers)))

    def test_read_again(self):
        source = Source(372)
        for degree in range(-1, 13):
            for _ in range(6):
                one = source.poly(degree) if degree >= 0 else ()
                self.assertLessEqual(len(write(one)), 200)
                self.same(read(write(one)), one)

    def test_digits(self):
        longest = LIMIT - 1
        for top, low, due in [
            (longest, 1, str(longest)), (-longest, 1, "-" + str(longest)),
            (1, longest, "1/" + str(longest)), (-2, longest, "-2/" + str(longest)),
            (longest, longest - 1, str(longest) + "/" + str(longest - 1)),
        ]:
            self.same(write(((top, low),)), due)
            self.same(write(((0, 1), (top, low))), due + "x")

    def test_too_large(self):
        for number in [(LIMIT, 1), (-LIMIT, 1), (1, LIMIT), (-1, LIMIT), (LIMIT + 1, 3), (10 ** 6000, 1),
                       (-1, 7 ** 9000), (LIMIT - 1, LIMIT), (LIMIT, LIMIT - 1)]:
            self.fails("TooLarge", write, (number,), most=1000)
            self.fails("TooLarge", write, ((1, 2), number, (0, 1), (3, 1)), most=1000)
            self.fails("TooLarge", write, ((0, 1),) * 12 + (number,), most=1000)

    def test_wrong(self):
        for item, (name, fields) in WRONG_POLY:
            self.fails(name, write, item, **fields)
        # Behind the errors of the argument.
        self.fails("BadPolynomial", write, ((LIMIT, 1), (0, 1)))
        self.fails("BadPolynomial", write, ((LIMIT, 1), 1))


class Read(Case):
    def test_ordinary(self):
        for text, numbers in [
            ("2x - 1/2 + x", ("-1/2", 3)), ("0", ()), ("-0", ()), ("x", (0, 1)), ("-x", (0, -1)),
            ("5", (5,)), ("-5/10", ("-1/2",)), ("007", (7,)), ("0/3", ()), ("00/001", ()),
            ("x^0", (1,)), ("x^1", (0, 1)), ("3x^0 - 3", ()), ("x^12", [0] * 12 + [1]),
            ("x^0012", [0] * 12 + [1]), ("x^000", (1,)), ("1/2x", (0, "1/2")), ("6/4x^2", (0, 0, "3/2")),
            ("1 + x + x^2", (1, 1, 1)), ("x^2 + x + 1", (1, 1, 1)), ("x + 1 + x^2", (1, 1, 1)),
            ("x - x", ()), ("x^3 - x^3 + x", (0, 1)), ("-1 - 1 - 1", (-3,)), ("0x^12", ()),
            ("1/3 + 1/6", ("1/2",)), ("-x^2 - 2x^2 + 3x^2", ()), ("12/8x^03 - 1/2x^3", (0, 0, 0, 1)),
            ("-3/1x + 0", (0, -3)),
        ]:
            self.same(read(text), poly(*numbers))

    def test_invalid(self):
        for text, place in [
            ("", 1), ("-", 2), ("--x", 2), ("- x", 2), ("+x", 1), (" x", 1), ("x ", 3), ("x +", 4),
            ("x + ", 5), ("x +x", 4), ("x+ x", 2), ("x  + x", 3), ("x +  x", 5), ("x + -x", 5),
            ("x + + x", 5), ("x2", 2), ("xx", 2), ("x^", 3), ("x^x", 3), ("x^ 2", 3), ("x^-1", 3),
            ("x^2^2", 4), ("x^2x", 4), ("x^2/3", 4), ("x/2", 2), ("2^3", 2), ("2 x", 3), ("2/", 3),
            ("2/x", 3), ("2/ 3", 3), ("2/-3", 3), ("1/2/3", 4), ("/2", 1), ("^2", 1), ("2x3", 3),
            ("2*x", 2), ("1.5", 2), ("X", 1), ("y", 1), ("x\n", 2), ("\n", 1), ("1_0", 2), ("0x10", 3),
            ("1e5", 2), ("x * x", 3), ("(x)", 1), ("x =", 3), ("2 + 3 ", 7), ("1/2 - ", 7),
            ("\u0663", 1), ("1\u0663", 2), ("x^\u00b2", 3), ("\u2212x", 1), ("x \u2212 1", 3),
            ("x\u00a0+ 1", 2), ("\U0001d7d8", 1), ("x^1\u00b2", 4), ("1/\u0663", 3),
        ]:
            self.fails("InvalidText", read, text, place=place)

    def test_each_place(self):
        for text in ("-12/34x^10 + 5 - x + 6/7", "x^2 - 3x", "1/2 + x^012", "-7 - 8x"):
            for at in range(len(text) + 1):
                self.same(outcome(read, (text[:at],)), error_of(text[:at]))
                for sign in SIGNS + OTHER_SIGNS:
                    for behind in ("", text[at:], text[at + 1:], sign):
                        changed = text[:at] + sign + behind
                        self.same(outcome(read, (changed,)), error_of(changed))
                        if sign in OTHER_SIGNS and not text[:at].endswith(("/0", "^13")):
                            self.fails("InvalidText", read, changed, place=at + 1)

    def test_too_short(self):
        for text in ("-12/34x^10 + 5 - x + 6/7", "x^2 - 3x", "1/2 + x^012"):
            for at in range(len(text)):
                due = error_of(text[:at])
                self.assertIn(due, [None, ("InvalidText", {"place": at + 1})])
                self.same(outcome(read, (text[:at],)), due)

    def test_many(self):
        source = Source(373)
        for _ in range(600):
            text = right_text(source)
            self.assertIsNone(error_of(text))
            self.same(read(text), polynomial_of(text))

    def test_many_wrong(self):
        source = Source(374)
        kinds = {}
        for _ in range(6000):
            text = right_text(source)
            for _ in range(source.random.randint(1, 2)):
                at = source.random.randint(0, len(text))
                sign = source.random.choice(["", "0", "/0", "^13", "^", "/", "x", " ", "-", "!", " + ", "9"])
                text = text[:at] + sign + text[at + source.random.randint(0, 2):]
            due = error_of(text)
            self.same(outcome(read, (text,)), due)
            kinds[due[0] if due else None] = True
            if due is None:
                self.same(read(text), polynomial_of(text))
        self.assertEqual(len(kinds), 4)

    def test_divides_by_0(self):
        for text in ("1/0", "0/0", "1/000", "-5/0x", "x + 3/0", "1/0x^2 - 1", "1/0!", "1/0/", "1/0 !",
                     "1/0x^", "1/0x^13", "1/0 + x^13", "1/0 + 1/", "x^12 - 1/00 ", "1/0\n"):
            self.fails("DividesByZero", read, text)
        for text, place in [("!1/0", 1), ("x! + 1/0", 2), ("1//0", 3), ("1/!0", 3), ("x^!1/0", 3),
                            ("x  1/0", 3), ("1/ 0", 3)]:
            self.fails("InvalidText", read, text, place=place)
        self.same(read("1/01"), poly(1))
        self.same(read("1/010"), poly("1/10"))

    def test_power_above_12(self):
        for text in ("x^13", "x^013", "-2x^99", "x^12 + x^13", "x^13 - x^13", "0x^13", "x^13!", "x^13x",
                     "x^13 !", "x^13 + 1/0", "x^13/0", "x^120", "x^" + "9" * 198, "0/1x^14 ", "x^13\n"):
            self.fails("TooLarge", read, text, most=12)
        for text, place in [("!x^13", 1), ("x^!13", 3), ("x^ 13", 3), ("2 x^13", 3), ("x^1!3", 4),
                            ("x^x^13", 3)]:
            self.fails("InvalidText", read, text, place=place)
        self.fails("DividesByZero", read, "1/0 + x^13")
        self.same(read("x^012 + x^0000000012"), poly(*[0] * 12, 2))

    def test_signs(self):
        self.same(read("1" * 200), poly(int("1" * 200)))
        self.same(read("1/" + "3" * 198), poly(Fraction(1, int("3" * 198))))
        self.same(read("x" + " + x" * 49), poly(0, 50))
        self.assertEqual(len("x^01" + " - x" * 49), 200)
        self.same(read("x^01" + " - x" * 49), poly(0, -48))
        self.fails("InvalidText", read, "1" * 199 + "!", place=200)
        self.fails("InvalidText", read, "1" * 199 + " ", place=201)
        for text in ("1" * 201, "!" * 201, "x^001" + " - x" * 49, "1" * 200 + "!", "x" * HUGE.bit_length(),
                     " " * 201, "1/0" + "0" * 198):
            self.fails("NotText", read, text)

    def test_not_text(self):
        for item in NOT_TUPLES + ((), ("x",), ["x"], {"x": 1}, b"x", (1, 1), HUGE, -1):
            if not isinstance(item, str):
                self.fails("NotText", read, item)


class Reference(Case):
    def test_polynomial_of(self):
        self.assertEqual(polynomial_of("2x - 1/2 + x"), poly("-1/2", 3))
        self.assertEqual(polynomial_of("-12/8x^03 - 1 - 2x"), poly(-1, -2, 0, "-3/2"))
        self.assertEqual(text_of(poly("1/2", 0, -1)), "-x^2 + 1/2")
        self.assertEqual(error_of("x +"), ("InvalidText", {"place": 4}))
        self.assertEqual(ratio_of("1/2"), (1, 2))


if __name__ == "__main__":
    unittest.main()

"""What the tests share: widths and wrong things to try, answers reckoned another way, how a refusal is looked at."""

import unittest
from fractions import Fraction

from floatforge import errors

REFUSALS = ("NoWidth", "NoWord", "NoWay", "NoNumber", "NoMatch", "NoText", "NoSpan", "NoName", "NoRow")

# Narrow enough to try each word.
NARROW = ((2, 1), (2, 2), (2, 4), (3, 1), (3, 2), (4, 3), (5, 2))
# Corners of the range, and widths in common use.
WIDE = ((2, 60), (11, 1), (11, 60), (5, 10), (8, 7), (8, 23), (11, 52))
WIDTHS = NARROW + WIDE

NOT_WHOLE = (None, True, False, "", "1", "0", [], [1], (), (1,), (0, 0), {}, 1.0, 0.0, float("nan"), b"1", object())

NOT_WIDTHS = (
    None, True, False, 0, 5, "", "5 10", (), (5,), (5, 10, 1), [5, 10], {5: 10}, {5, 10}, range(2, 4), object(),
    (1, 10), (0, 10), (-5, 10), (12, 10), (10 ** 1999, 10), (5, 0), (5, -10), (5, 61), (5, 10 ** 1999), (1, 0), (12, 61),
    (True, 10), (5, True), (False, 10), (5, False), (None, 10), (5, None), ("5", 10), (5, "10"), ([5], 10), (5, [10]),
    ((5,), 10), (5, (10,)), (5.0, 10), (5, 10.0), (None, None), ((5, 10), (5, 10)),
)

WAYS = ("even", "away", "in", "up", "down")
NOT_WAYS = (
    None, True, False, 0, 1, -1, "", " ", "Even", "EVEN", "even ", " even", "even\n", "evenly", "inward", "upward", "eve",
    "even away", "near", "clean", [], ["even"], (), ("even",), ("up", "down"), {}, {"even": 1}, {"in"}, b"even", 1.0,
    object(),
)


def not_words(width):
    """What is no word of the width: out of range either way, or no whole number."""
    many = 2 ** (1 + width[0] + width[1])
    return (-1, -2, -many, many, many + 1, 2 * many, 10 ** 1999, -10 ** 1999) + NOT_WHOLE


def telling_words(width):
    """Words of each kind and either sign, those at the edges of the kinds among them."""
    e, f = width
    top = 2 ** e - 1
    half = 2 ** (f - 1)
    full = 2 ** f - 1
    halves = {
        (0, 0), (0, 1), (0, half), (0, full), (1, 0), (1, 1), (1, full), (top - 1, 0), (top - 1, half), (top - 1, full),
        (top // 2, 0), (top // 2, full), (top, 0), (top, 1), (top, half), (top, full), (top, max(half - 1, 1)),
        (top, min(half + 1, full)),
    }
    return [sign * 2 ** (e + f) + exponent * 2 ** f + fraction
            for sign in (0, 1) for exponent, fraction in sorted(halves)]


def words_to_try(width):
    """Each word of a narrow width, telling ones of another."""
    if width in NARROW:
        return list(range(2 ** (1 + width[0] + width[1])))
    return telling_words(width)


def parts_by_division(width, word):
    """The three parts reckoned another way than by shifts of bits."""
    e, f = width
    return word // 2 ** (e + f), word // 2 ** f % 2 ** e, word % 2 ** f


def kind_by_parts(width, word):
    """The kind as the six are told, straight from the parts."""
    sign, exponent, fraction = parts_by_division(width, word)
    top = 2 ** width[0] - 1
    if exponent == top and fraction != 0:
        return "still" if 2 * fraction >= 2 ** width[1] else "loud"
    if exponent == top:
        return "endless"
    if exponent == 0:
        return "small" if fraction != 0 else "nought"
    return "plain"


def fraction_of(number):
    """An exact number as a Fraction."""
    n, k = number
    return Fraction(n * 2 ** k) if k >= 0 else Fraction(n, 2 ** -k)


def value_by_promise(width, word):
    """The value as it is told of small and plain words, as a Fraction."""
    sign, exponent, fraction = parts_by_division(width, word)
    e, f = width
    bias = 2 ** (e - 1) - 1
    if exponent == 0:
        size = Fraction(fraction) * Fraction(2) ** (1 - bias - f)
    else:
        size = (1 + Fraction(fraction, 2 ** f)) * Fraction(2) ** (exponent - bias)
    return -size if sign else size


def is_number(width, word):
    return kind_by_parts(width, word) in ("nought", "small", "plain")


def is_loud(width, word):
    return kind_by_parts(width, word) == "loud"


def is_none(width, word):
    return kind_by_parts(width, word) in ("still", "loud")


def numbers_of(width):
    return [word for word in words_to_try(width) if is_number(width, word)]


def shown(value):
    """A short text of whatever is tried."""
    try:
        text = repr(value)
    except ValueError:
        # Python refuses to write whole numbers of more than 4300 figures.
        return "a number too great to write"
    return text if len(text) <= 60 else text[:40] + ".. of " + str(len(text)) + " signs"


class PromiseTest(unittest.TestCase):
    """A test case that knows what a refusal has to be."""

    def assert_refused(self, name, function, *args):
        with self.subTest(refusal=name, function=function.__name__, args=[shown(arg) for arg in args]):
            with self.assertRaises(errors.FloatError) as caught:
                function(*args)
            self.assert_is_just(name, caught.exception)

    def assert_is_just(self, name, error):
        self.assertIsInstance(error, ValueError)
        self.assertIsInstance(error, errors.FloatError)
        matching = [other for other in REFUSALS if isinstance(error, getattr(errors, other))]
        self.assertEqual(matching, [name])

    def assert_whole(self, value):
        self.assertIs(type(value), int)

    def assert_tuple_of_wholes(self, value, length):
        self.assertIs(type(value), tuple)
        self.assertEqual([type(part) for part in value], [int] * length)

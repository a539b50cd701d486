"""What the tests share: widths and wrong things to try, answers reckoned another way, how a refusal is looked at."""

import functools
import unittest
from fractions import Fraction

from floatforge import errors

REFUSALS = ("NoWidth", "NoWord", "NoWay", "NoNumber", "NoMatch", "NoText", "NoSpan", "NoName", "NoRow")

# Narrow enough to try each word.
NARROW = ((2, 1), (2, 2), (2, 4), (3, 1), (3, 2), (4, 3), (5, 2))
# Corners of the range, and widths in common use.
WIDE = ((2, 60), (11, 1), (11, 60), (5, 10), (8, 7), (8, 23), (11, 52))
WIDTHS = NARROW + WIDE

NOT_WHOLE = (None, True, False, "", "1", "0", [], [1], (), (1,), (0, 0), {}, 1.0, 0.0, float("nan"), b"1", object())

NOT_WIDTHS = (
    None, True, False, 0, 5, "", "5 10", (), (5,), (5, 10, 1), [5, 10], {5: 10}, {5, 10}, range(2, 4), object(),
    (1, 10), (0, 10), (-5, 10), (12, 10), (10 ** 1999, 10), (5, 0), (5, -10), (5, 61), (5, 10 ** 1999), (1, 0), (12, 61),
    (True, 10), (5, True), (False, 10), (5, False), (None, 10), (5, None), ("5", 10), (5, "10"), ([5], 10), (5, [10]),
    ((5,), 10), (5, (10,)), (5.0, 10), (5, 10.0), (None, None), ((5, 10), (5, 10)),
)

WAYS = ("even", "away", "in", "up", "down")
NOT_WAYS = (
    None, True, False, 0, 1, -1, "", " ", "Even", "EVEN", "even ", " even", "even\n", "evenly", "inward", "upward", "eve",
    "even away", "near", "clean", [], ["even"], (), ("even",), ("up", "down"), {}, {"even": 1}, {"in"}, b"even", 1.0,
    object(),
)
NOT_TEXTS = (None, True, False, 0, 1, -1, 15, 10 ** 1999, [], ["1"], ["1", "5"], (), ("1",), {}, {"1": 1}, {"1"}, b"1", 1.5,
             object())
# Texts that write no number and are no name of a word either.
NOT_NUMBER_TEXTS = (
    "", " ", "-", ".", "e", "e5", "-e5", ".5", "5.", "-.5", "-5.", ".e1", "1.e1", "1.2.3", "1..2", "1.2.", "..1", "+1", "1e+5",
    "+", "--1", "-+1", "1-", "1 ", " 1", "1 2", "- 1", "1\n", "\n1", "\n", "1e", "1e-", "1.5e", "1e--5", "1e5e5", "1e5.0", "1e.5",
    "1ee5", "1E5", "1.5E-3", "1e 5", "1e5 ", "0x10", "1_000", "1,5", "1/2", "inf", "nan", "Infinity", "one", "1f", "1e5-", "e-5",
    "None", "NONE", "Endless", "-none", "+endless", "endless ", " none", "none\n", "--endless", "endlesss", "1none", "\u0663",
    "\uff11", "\u00bd", "1\u0660", "1e\u0663", "\u22121",
)


def not_words(width):
    """What is no word of the width: out of range either way, or no whole number."""
    many = 2 ** (1 + width[0] + width[1])
    return (-1, -2, -many, many, many + 1, 2 * many, 10 ** 1999, -10 ** 1999) + NOT_WHOLE


def telling_words(width):
    """Words of each kind and either sign, those at the edges of the kinds among them."""
    e, f = width
    top = 2 ** e - 1
    half = 2 ** (f - 1)
    full = 2 ** f - 1
    halves = {
        (0, 0), (0, 1), (0, half), (0, full), (1, 0), (1, 1), (1, full), (top - 1, 0), (top - 1, half), (top - 1, full),
        (top // 2, 0), (top // 2, full), (top, 0), (top, 1), (top, half), (top, full), (top, max(half - 1, 1)),
        (top, min(half + 1, full)),
    }
    return [sign * 2 ** (e + f) + exponent * 2 ** f + fraction
            for sign in (0, 1) for exponent, fraction in sorted(halves)]


def words_to_try(width):
    """Each word of a narrow width, telling ones of another."""
    if width in NARROW:
        return list(range(2 ** (1 + width[0] + width[1])))
    return telling_words(width)


def parts_by_division(width, word):
    """The three parts reckoned another way than by shifts of bits."""
    e, f = width
    return word // 2 ** (e + f), word // 2 ** f % 2 ** e, word % 2 ** f


def kind_by_parts(width, word):
    """The kind as the six are told, straight from the parts."""
    sign, exponent, fraction = parts_by_division(width, word)
    top = 2 ** width[0] - 1
    if exponent == top and fraction != 0:
        return "still" if 2 * fraction >= 2 ** width[1] else "loud"
    if exponent == top:
        return "endless"
    if exponent == 0:
        return "small" if fraction != 0 else "nought"
    return "plain"


def fraction_of(number):
    """An exact number as a Fraction."""
    n, k = number
    return Fraction(n * 2 ** k) if k >= 0 else Fraction(n, 2 ** -k)


@functools.lru_cache(maxsize=100000)
def value_by_promise(width, word):
    """The value as it is told of small and plain words, as a Fraction."""
    sign, exponent, fraction = parts_by_division(width, word)
    e, f = width
    bias = 2 ** (e - 1) - 1
    if exponent == 0:
        size = Fraction(fraction) * Fraction(2) ** (1 - bias - f)
    else:
        size = (1 + Fraction(fraction, 2 ** f)) * Fraction(2) ** (exponent - bias)
    return -size if sign else size


def is_number(width, word):
    return kind_by_parts(width, word) in ("nought", "small", "plain")


def is_loud(width, word):
    return kind_by_parts(width, word) == "loud"


def is_none(width, word):
    return kind_by_parts(width, word) in ("still", "loud")


def numbers_of(width):
    return [word for word in words_to_try(width) if is_number(width, word)]


def sign_of(width):
    """The sign's bit, which is the nought with sign 1 as well."""
    return 2 ** (width[0] + width[1])


def endless_in(width):
    return (2 ** width[0] - 1) * 2 ** width[1]


def none_in(width):
    return endless_in(width) + 2 ** (width[1] - 1)


def standing(size):
    """How a size stands to a Fraction: -1, 0 or 1."""
    return lambda other: (size > other) - (size < other)


def greatest_not_above(width, stands):
    """The greatest number with sign 0 whose value is not above a size, found by halving."""
    low, high = 0, endless_in(width)
    while high - low > 1:
        middle = (low + high) // 2
        if stands(value_by_promise(width, middle)) >= 0:
            low = middle
        else:
            high = middle
    return low


def takes_upper(way, odd, against_middle, below):
    """Whether of the two words round an amount the one farther from nought is the answer."""
    if way in ("up", "down"):
        return below == (way == "down")
    if way == "in":
        return False
    return against_middle > 0 or (against_middle == 0 and (way == "away" or odd))


def size_taken(width, stands, below, way):
    """The answer for a size that is no nought, sought among the words round it."""
    bias = 2 ** (width[0] - 1) - 1
    beyond = Fraction(2) ** (bias + 1)
    sign = sign_of(width) if below else 0
    lower = greatest_not_above(width, stands)
    value = value_by_promise(width, lower)
    if stands(value) == 0:
        return lower + sign, 0
    if stands(beyond) >= 0:
        endless = way in ("even", "away") or (way == "down" if below else way == "up")
        return endless_in(width) - (0 if endless else 1) + sign, 20
    upper = beyond if lower + 1 == endless_in(width) else value_by_promise(width, lower + 1)
    word = lower + 1 if takes_upper(way, lower % 2 == 1, stands((value + upper) / 2), below) else lower
    if word == endless_in(width):
        return word + sign, 20
    return word + sign, 24 if stands(Fraction(2) ** (1 - bias)) < 0 else 16


def taken_by_promise(width, number, way):
    """What a Fraction is taken to, with its marks."""
    if number == 0:
        return 0, 0
    return size_taken(width, standing(abs(number)), number < 0, way)


def thing_of(width, word):
    """A word as what sums are reckoned of: its kind, its sign's bit and its value."""
    kind = kind_by_parts(width, word)
    sign = word // sign_of(width)
    return kind if kind in ("still", "loud", "endless") else "number", sign, (
        value_by_promise(width, word) if is_number(width, word) else None)


def sum_of_things(width, things, way):
    """The answer for a sum, reckoned with Fractions."""
    kinds = {kind for kind, sign, value in things}
    ends = {sign for kind, sign, value in things if kind == "endless"}
    if "loud" in kinds or (len(ends) == 2 and "still" not in kinds):
        return none_in(width), 1
    if "still" in kinds:
        return none_in(width), 0
    if ends:
        return endless_in(width) + ends.pop() * sign_of(width), 0
    exact = sum((value for kind, sign, value in things), Fraction(0))
    if exact != 0:
        return taken_by_promise(width, exact, way)
    signs = {sign for kind, sign, value in things}
    if all(value == 0 for kind, sign, value in things) and len(signs) < 2:
        return sum(signs) * sign_of(width), 0
    return sign_of(width) if way == "down" else 0, 0


def product_of_things(one, other):
    kinds = {one[0], other[0]}
    if "loud" in kinds or ("endless" in kinds and 0 in (one[2], other[2])):
        return ("loud", 0, None)
    if "still" in kinds:
        return ("still", 0, None)
    sign = one[1] ^ other[1]
    return ("endless", sign, None) if "endless" in kinds else ("number", sign, one[2] * other[2])


def shown(value):
    """A short text of whatever is tried."""
    try:
        text = repr(value)
    except ValueError:
        # Python refuses to write whole numbers of more than 4300 figures.
        return "a number too great to write"
    return text if len(text) <= 60 else text[:40] + ".. of " + str(len(text)) + " signs"


class PromiseTest(unittest.TestCase):
    """A test case that knows what a refusal has to be."""

    def assert_refused(self, name, function, *args):
        with self.subTest(refusal=name, function=function.__name__, args=[shown(arg) for arg in args]):
            with self.assertRaises(errors.FloatError) as caught:
                function(*args)
            self.assert_is_just(name, caught.exception)

    def assert_is_just(self, name, error):
        self.assertIsInstance(error, ValueError)
        self.assertIsInstance(error, errors.FloatError)
        matching = [other for other in REFUSALS if isinstance(error, getattr(errors, other))]
        self.assertEqual(matching, [name])

    def assert_answer(self, answer, expected, *args):
        """An answer is a tuple of a word and marks."""
        self.assertEqual((type(answer), [type(part) for part in answer]), (tuple, [int, int]))
        if answer != expected:
            self.fail(f"{[shown(arg) for arg in args]}: answered {answer}, expected {expected}")

    def assert_whole(self, value):
        self.assertIs(type(value), int)

    def assert_tuple_of_wholes(self, value, length):
        self.assertIs(type(value), tuple)
        self.assertEqual([type(part) for part in value], [int] * length)

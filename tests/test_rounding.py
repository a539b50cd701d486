"""[23] and [24] An amount taken to a word by each way, with its marks."""

import struct
import unittest
from fractions import Fraction

from floatforge.rounding import taken
from floatforge.widths import width_of
from floatforge.words import turned
from tests.helpers import (
    NARROW, NOT_WAYS, NOT_WIDTHS, WAYS, WIDTHS, PromiseTest, endless_in, numbers_of, shown, sign_of, taken_by_promise,
    value_by_promise,
)

HALF = width_of(5, 10)
SINGLE = width_of(8, 23)
LEAST = width_of(2, 1)
MOST = width_of(11, 60)

# Two thousand figures, the greatest that is promised.
GREAT = 10 ** 2000 - 1
TINY = Fraction(1, 2 ** 3000)


def as_amount(number, k=0):
    """A Fraction as n, k, d, with the power asked for."""
    scaled = number / Fraction(2) ** k
    return scaled.numerator, k, scaled.denominator


def rank(width, word):
    return word if word < sign_of(width) else sign_of(width) - word


class Known(PromiseTest):
    def check(self, width, args, answers):
        for way, answer in zip(WAYS, answers):
            with self.subTest(width=width, args=args, way=way):
                self.assert_answer(taken(width, *args, way), answer, width, args, way)

    def test_values_of_words(self):
        self.check(HALF, (1, 0, 1), [(0x3C00, 0)] * 5)
        self.check(HALF, (-3, 0, 2), [(0xBE00, 0)] * 5)
        self.check(HALF, (7, 3, 14), [(0x4400, 0)] * 5)
        self.check(HALF, (1, -24, 1), [(0x0001, 0)] * 5)
        self.check(HALF, (-1, -15, 1), [(0x8200, 0)] * 5)
        self.check(HALF, (65504, 0, 1), [(0x7BFF, 0)] * 5)

    def test_nought(self):
        for k in (-9000, 0, 9000):
            for d in (1, 3, GREAT):
                for width in (LEAST, HALF, MOST):
                    self.check(width, (0, k, d), [(0, 0)] * 5)

    def test_a_third(self):
        self.check(HALF, (1, 0, 3), [(0x3555, 16), (0x3555, 16), (0x3555, 16), (0x3556, 16), (0x3555, 16)])
        self.check(HALF, (-1, 0, 3), [(0xB555, 16), (0xB555, 16), (0xB555, 16), (0xB555, 16), (0xB556, 16)])
        self.check(HALF, (2, 0, 3), [(0x3955, 16), (0x3955, 16), (0x3955, 16), (0x3956, 16), (0x3955, 16)])

    def test_just_half_between_two_words(self):
        self.check(HALF, (2049, 0, 1), [(0x6800, 16), (0x6801, 16), (0x6800, 16), (0x6801, 16), (0x6800, 16)])
        self.check(HALF, (2051, 0, 1), [(0x6802, 16), (0x6802, 16), (0x6801, 16), (0x6802, 16), (0x6801, 16)])
        self.check(HALF, (-2049, 0, 1), [(0xE800, 16), (0xE801, 16), (0xE800, 16), (0xE800, 16), (0xE801, 16)])
        self.check(HALF, (4095, -1, 1), [(0x6800, 16), (0x6800, 16), (0x67FF, 16), (0x6800, 16), (0x67FF, 16)])

    def test_below_the_least_small_number(self):
        self.check(HALF, (1, -25, 1), [(0, 24), (1, 24), (0, 24), (1, 24), (0, 24)])
        self.check(HALF, (-1, -25, 1), [(0x8000, 24), (0x8001, 24), (0x8000, 24), (0x8000, 24), (0x8001, 24)])
        self.check(HALF, (3, -26, 1), [(1, 24), (1, 24), (0, 24), (1, 24), (0, 24)])
        self.check(HALF, (1, -26, 1), [(0, 24), (0, 24), (0, 24), (1, 24), (0, 24)])
        self.check(HALF, (-1, -9000, 1), [(0x8000, 24), (0x8000, 24), (0x8000, 24), (0x8000, 24), (0x8001, 24)])
        self.check(HALF, (3, -25, 1), [(2, 24), (2, 24), (1, 24), (2, 24), (1, 24)])

    def test_round_the_least_plain_number(self):
        self.check(HALF, (2047, -25, 1), [(0x0400, 24), (0x0400, 24), (0x03FF, 24), (0x0400, 24), (0x03FF, 24)])
        self.check(HALF, (1024, -24, 1), [(0x0400, 0)] * 5)
        self.check(HALF, (2049, -25, 1), [(0x0400, 16), (0x0401, 16), (0x0400, 16), (0x0401, 16), (0x0400, 16)])
        self.check(HALF, (8191, -27, 1), [(0x0400, 24), (0x0400, 24), (0x03FF, 24), (0x0400, 24), (0x03FF, 24)])

    def test_at_and_beyond_the_greatest_number(self):
        endless, most = (0x7C00, 20), (0x7BFF, 20)
        near = (0x7BFF, 16)
        self.check(HALF, (65505, 0, 1), [near, near, near, endless, near])
        self.check(HALF, (65519, 0, 1), [near, near, near, endless, near])
        self.check(HALF, (65520, 0, 1), [endless, endless, near, endless, near])
        self.check(HALF, (65521, 0, 1), [endless, endless, near, endless, near])
        self.check(HALF, (65535, 0, 1), [endless, endless, near, endless, near])
        self.check(HALF, (1, 16, 1), [endless, endless, most, endless, most])
        self.check(HALF, (65537, 0, 1), [endless, endless, most, endless, most])
        self.check(HALF, (1, 9000, 1), [endless, endless, most, endless, most])
        self.check(HALF, (GREAT, 9000, 1), [endless, endless, most, endless, most])
        below, least, beside = (0xFC00, 20), (0xFBFF, 20), (0xFBFF, 16)
        self.check(HALF, (-65519, 0, 1), [beside, beside, beside, beside, below])
        self.check(HALF, (-65520, 0, 1), [below, below, beside, beside, below])
        self.check(HALF, (-1, 16, 1), [below, below, least, least, below])
        self.check(HALF, (-GREAT, 0, 1), [below, below, least, least, below])

    def test_the_narrowest_width(self):
        self.check(LEAST, (1, -2, 1), [(0, 24), (1, 24), (0, 24), (1, 24), (0, 24)])
        self.check(LEAST, (3, -2, 1), [(2, 24), (2, 24), (1, 24), (2, 24), (1, 24)])
        self.check(LEAST, (5, -2, 1), [(2, 16), (3, 16), (2, 16), (3, 16), (2, 16)])
        self.check(LEAST, (7, -1, 1), [(6, 20), (6, 20), (5, 16), (6, 20), (5, 16)])
        self.check(LEAST, (4, 0, 1), [(6, 20), (6, 20), (5, 20), (6, 20), (5, 20)])
        self.check(LEAST, (-7, -1, 1), [(14, 20), (14, 20), (13, 16), (13, 16), (14, 20)])

    def test_the_widest_width(self):
        one = 1023 * 2 ** 60
        half_step = 2 ** 61 + 1
        self.check(MOST, (half_step, -61, 1), [(one, 16), (one + 1, 16), (one, 16), (one + 1, 16), (one, 16)])
        self.check(MOST, (1, -1083, 1), [(0, 24), (1, 24), (0, 24), (1, 24), (0, 24)])
        most = 2047 * 2 ** 60
        self.check(MOST, (1, 1024, 1), [(most, 20), (most, 20), (most - 1, 20), (most, 20), (most - 1, 20)])
        self.check(MOST, (2 ** 61 - 1, 963, 1), [(most - 1, 0)] * 5)
        self.check(MOST, (2 ** 62 - 1, 962, 1), [(most, 20), (most, 20), (most - 1, 16), (most, 20), (most - 1, 16)])

    def test_the_way_left_out_is_even(self):
        for args in ((1, 0, 3), (2049, 0, 1), (-2051, 0, 1), (1, -25, 1), (65520, 0, 1), (1, 20, 1), (-1, 20, 1)):
            self.assertEqual(taken(HALF, *args), taken(HALF, *args, "even"))


class Held(PromiseTest):
    def check(self, width, number, k=0):
        for way in WAYS:
            args = as_amount(number, k)
            self.assert_answer(taken(width, *args, way), taken_by_promise(width, number, way), width, args, way)

    def test_amounts_all_over_a_narrow_width(self):
        for width in ((2, 1), (2, 2), (3, 1)):
            reach = 2 ** (2 ** (width[0] - 1)) + 1
            for d in (8, 24):
                for n in range(-reach * d, reach * d + 1):
                    self.check(width, Fraction(n, d))

    def test_round_each_number(self):
        for width in WIDTHS:
            words = numbers_of(width)
            for word in words if width in NARROW else words[::2]:
                value = value_by_promise(width, word)
                beside = value_by_promise(width, word + 1) if (word + 1) % sign_of(width) < endless_in(width) else 2 * value
                middle = (value + beside) / 2
                for number in (value, middle):
                    for shift in (0, TINY, -TINY):
                        self.check(width, number + shift)
                self.check(width, (2 * value + beside) / 3)
                self.check(width, (value + 2 * beside) / 3, -7)

    def test_round_the_edges(self):
        for width in WIDTHS:
            bias = 2 ** (width[0] - 1) - 1
            step = Fraction(2) ** (bias - width[1])
            beyond = Fraction(2) ** (bias + 1)
            least = Fraction(2) ** (1 - bias - width[1])
            plain = Fraction(2) ** (1 - bias)
            edges = (beyond, beyond - step, beyond - step / 2, beyond + step, 2 * beyond, least, least / 2, least / 4,
                     3 * least / 4, plain, plain - least / 2, plain - least / 4, plain + least / 2)
            for edge in edges:
                for shift in (0, TINY, -TINY):
                    self.check(width, edge + shift)
                    self.check(width, -edge + shift)

    def test_great_and_little_amounts(self):
        for width in (LEAST, HALF, SINGLE, MOST):
            for n in (GREAT, -GREAT, 1, -7, 2 ** 6643):
                for k in (-9000, -6700, -6643, -1, 0, 100, 9000):
                    for d in (1, 3, 2 ** 64, GREAT, GREAT - 1, 10 ** 1999):
                        self.check_parts(width, n, k, d)

    def check_parts(self, width, n, k, d):
        number = Fraction(n, d) * Fraction(2) ** k
        for way in WAYS:
            self.assert_answer(taken(width, n, k, d, way), taken_by_promise(width, number, way), width, n, k, d, way)

    def test_as_other_programs_round(self):
        for n in range(1, 70000, 37):
            for d in (1, 16, 4096, 2 ** 30):
                value = n / d
                if value < 65520:
                    self.assertEqual(taken(HALF, n, 0, d)[0], struct.unpack("<H", struct.pack("<e", value))[0])
                self.assertEqual(taken(SINGLE, -n, 0, 3 * d)[0], 2 ** 31 + self.single(n, 3 * d))

    def single(self, n, d):
        # A double of a quotient that is no tie of single words is not rounded twice to another word.
        return struct.unpack("<I", struct.pack("<f", n / d))[0]


class Told(PromiseTest):
    def numbers(self, width):
        values = sorted({value_by_promise(width, word) for word in numbers_of(width)})
        between = [(one + other) / 2 for one, other in zip(values, values[1:])]
        third = [(2 * one + other) / 3 for one, other in zip(values, values[1:])]
        beyond = [values[-1] * 17 / 16, values[-1] * 3, values[0] * 17 / 16, values[0] * 3]
        return sorted(values + between + third + beyond)

    def test_the_greater_amount_is_taken_to_no_lesser_rank(self):
        for width in WIDTHS:
            numbers = self.numbers(width)
            for way in WAYS:
                ranks = [rank(width, taken(width, *as_amount(number), way)[0]) for number in numbers]
                self.assertEqual(ranks, sorted(ranks), shown((width, way)))

    def test_opposite_amounts(self):
        opposite = {"even": "even", "away": "away", "in": "in", "up": "down", "down": "up"}
        for width in WIDTHS:
            for number in self.numbers(width):
                if number != 0:
                    for way, other in opposite.items():
                        word, marks = taken(width, *as_amount(number), way)
                        again = taken(width, *as_amount(-number), other)
                        self.assertEqual((turned(width, word), marks), again)

    def test_to_the_upper_the_lower_the_inner_or_the_nearer_word(self):
        for width in NARROW:
            values = sorted({value_by_promise(width, word) for word in numbers_of(width)})
            for lower, upper in zip(values, values[1:]):
                for part in (Fraction(1, 7), Fraction(3, 7), Fraction(4, 7), Fraction(6, 7)):
                    self.check_between(width, lower, upper, lower + part * (upper - lower))

    def check_between(self, width, lower, upper, number):
        nearer = lower if number - lower < upper - number else upper
        inner = min(lower, upper, key=abs)
        told = {"up": upper, "down": lower, "in": inner, "even": nearer, "away": nearer}
        for way, value in told.items():
            word, marks = taken(width, *as_amount(number), way)
            self.assertEqual(value_by_promise(width, word), value)
            self.assertEqual(marks & ~8, 16)
            # The nought that an amount is taken to bears its sign.
            self.assertEqual(word >= sign_of(width), number < 0)


class Refused(PromiseTest):
    def test_what_is_no_way(self):
        for wrong in NOT_WAYS:
            for args in ((0, 0, 1), (1, 0, 1), (1, 0, 3), (1, 9000, 1)):
                self.assert_refused("NoWay", taken, HALF, *args, wrong)

    def test_what_is_no_width(self):
        for wrong in NOT_WIDTHS:
            for n in (0, 1):
                self.assert_refused("NoWidth", taken, wrong, n, 0, 1)
                self.assert_refused("NoWidth", taken, wrong, n, 0, 1, "no way")


if __name__ == "__main__":
    unittest.main()

"""[33] and [34] Words taken to whole numbers, and whole numbers taken to words."""

import struct
import unittest
from fractions import Fraction

from floatforge.wholes import number_of, of_number, whole
from floatforge.widths import width_of
from tests.helpers import (
    NOT_WAYS, NOT_WIDTHS, WAYS, WIDTHS, PromiseTest, endless_in, is_number, kind_by_parts, none_in, not_words, sign_of,
    taken_by_promise, takes_upper, value_by_promise, words_to_try,
)

HALF = width_of(5, 10)
DOUBLE = width_of(11, 52)
LEAST = width_of(2, 1)
MOST = width_of(11, 60)

# Widths whose greatest numbers are no whole ones.
FINE = ((2, 4), (2, 60), (3, 8), (4, 30))
# Two thousand figures, the greatest that is promised.
GREAT = 10 ** 2000 - 1


def whole_held(value, way):
    """The whole number that a Fraction is taken to."""
    size = abs(value)
    m = size.numerator // size.denominator
    if size != m:
        middle = m + Fraction(1, 2)
        if takes_upper(way, m % 2 == 1, (size > middle) - (size < middle), value < 0):
            m += 1
    return -m if value < 0 else m


def answer_held(width, word, way):
    kind = kind_by_parts(width, word)
    if kind in ("loud", "still"):
        return none_in(width), 1 if kind == "loud" else 0
    if kind in ("endless", "nought"):
        return word, 0
    value = value_by_promise(width, word)
    number = whole_held(value, way)
    near = 0 if number == value else 16
    if number == 0:
        return word // sign_of(width) * sign_of(width), near
    answer = taken_by_promise(width, Fraction(number), way)
    return answer[0], answer[1] | near


class Wholes(PromiseTest):
    def each_way(self, word, *answers):
        for way, answer in zip(WAYS, answers if len(answers) > 1 else answers * 5):
            self.assert_answer(whole(HALF, word, way), answer, hex(word), way)

    def test_values_that_are_whole(self):
        for word in (0x3C00, 0xBC00, 0x4200, 0xC500, 0x6401, 0x7BFF, 0xFBFF):
            self.each_way(word, (word, 0))

    def test_just_half_between_two_whole_numbers(self):
        self.each_way(0x3800, (0, 16), (0x3C00, 16), (0, 16), (0x3C00, 16), (0, 16))
        self.each_way(0x3E00, (0x4000, 16), (0x4000, 16), (0x3C00, 16), (0x4000, 16), (0x3C00, 16))
        self.each_way(0x4100, (0x4000, 16), (0x4200, 16), (0x4000, 16), (0x4200, 16), (0x4000, 16))
        self.each_way(0xB800, (0x8000, 16), (0xBC00, 16), (0x8000, 16), (0x8000, 16), (0xBC00, 16))
        self.each_way(0xBE00, (0xC000, 16), (0xC000, 16), (0xBC00, 16), (0xBC00, 16), (0xC000, 16))
        self.each_way(0xC100, (0xC000, 16), (0xC200, 16), (0xC000, 16), (0xC000, 16), (0xC200, 16))

    def test_beside_a_half(self):
        self.each_way(0x3801, (0x3C00, 16), (0x3C00, 16), (0, 16), (0x3C00, 16), (0, 16))
        self.each_way(0x37FF, (0, 16), (0, 16), (0, 16), (0x3C00, 16), (0, 16))
        self.each_way(0xB7FF, (0x8000, 16), (0x8000, 16), (0x8000, 16), (0x8000, 16), (0xBC00, 16))
        self.each_way(0x4101, (0x4200, 16), (0x4200, 16), (0x4000, 16), (0x4200, 16), (0x4000, 16))
        self.each_way(0x40FF, (0x4000, 16), (0x4000, 16), (0x4000, 16), (0x4200, 16), (0x4000, 16))

    def test_small_words(self):
        self.each_way(0x0001, (0, 16), (0, 16), (0, 16), (0x3C00, 16), (0, 16))
        self.each_way(0x8001, (0x8000, 16), (0x8000, 16), (0x8000, 16), (0x8000, 16), (0xBC00, 16))

    def test_noughts_endless_and_nones(self):
        for word in (0x0000, 0x8000, 0x7C00, 0xFC00):
            self.each_way(word, (word, 0))
        for word in (0x7E00, 0xFE00, 0x7FFF, 0xFFFF):
            self.each_way(word, (0x7E00, 0))
        for word in (0x7C01, 0xFC01, 0x7DFF):
            self.each_way(word, (0x7E00, 1))

    def test_whole_numbers_too_great_for_the_width(self):
        # In (2, 4) the greatest number is 3.875, and 4 is beyond.
        self.assert_answer(whole((2, 4), 47), (48, 20))
        self.assert_answer(whole((2, 4), 47, "away"), (48, 20))
        self.assert_answer(whole((2, 4), 47, "up"), (48, 20))
        self.assert_answer(whole((2, 4), 47, "in"), (40, 16))
        self.assert_answer(whole((2, 4), 47, "down"), (40, 16))
        self.assert_answer(whole((2, 4), 64 + 47), (64 + 48, 20))
        self.assert_answer(whole((2, 4), 64 + 47, "up"), (64 + 40, 16))
        self.assert_answer(whole((2, 4), 64 + 47, "down"), (64 + 48, 20))
        self.assert_answer(whole((2, 4), 44, "even"), (48, 20))
        self.assert_answer(whole((2, 4), 43, "even"), (40, 16))

    def test_all_widths(self):
        for width in WIDTHS + FINE:
            for word in words_to_try(width):
                for way in WAYS:
                    self.assert_answer(whole(width, word, way), answer_held(width, word, way), width, word, way)
                self.assertEqual(whole(width, word), whole(width, word, "even"))

    def test_what_is_no_word_and_what_is_no_way(self):
        for width in WIDTHS:
            for wrong in not_words(width):
                self.assert_refused("NoWord", whole, width, wrong)
                self.assert_refused("NoWord", whole, width, wrong, "no way")
        for wrong in NOT_WAYS:
            for word in (0, 0x8000, 0x3C00, 0x3E00, 0x0001, 0x7C00, 0xFC00, 0x7E00, 0x7C01):
                self.assert_refused("NoWay", whole, HALF, word, wrong)

    def test_what_is_no_width(self):
        for wrong in NOT_WIDTHS:
            self.assert_refused("NoWidth", whole, wrong, 0)
            self.assert_refused("NoWidth", number_of, wrong, 0)
            self.assert_refused("NoWidth", of_number, wrong, 0)


class NumbersOfWords(PromiseTest):
    def test_known_words(self):
        told = {
            0x0000: [0] * 5, 0x8000: [0] * 5, 0x3C00: [1] * 5, 0xC500: [-5] * 5, 0x7BFF: [65504] * 5, 0xFBFF: [-65504] * 5,
            0x3800: [0, 1, 0, 1, 0], 0xB800: [0, -1, 0, 0, -1], 0x3E00: [2, 2, 1, 2, 1], 0xC100: [-2, -3, -2, -2, -3],
            0x0001: [0, 0, 0, 1, 0], 0x8001: [0, 0, 0, 0, -1],
        }
        for word, numbers in told.items():
            for way, number in zip(WAYS, numbers):
                with self.subTest(word=hex(word), way=way):
                    self.assert_whole(number_of(HALF, word, way))
                    self.assertEqual(number_of(HALF, word, way), number)

    def test_all_widths(self):
        for width in WIDTHS + FINE:
            for word in words_to_try(width):
                if is_number(width, word):
                    for way in WAYS:
                        self.assertEqual(number_of(width, word, way), whole_held(value_by_promise(width, word), way))
                    self.assertEqual(number_of(width, word), number_of(width, word, "even"))

    def test_a_whole_number_that_no_word_has(self):
        self.assertEqual(number_of((2, 60), 3 * 2 ** 60 - 1), 4)
        self.assertEqual(number_of((2, 60), 3 * 2 ** 60 - 1, "in"), 3)
        self.assertEqual(number_of((2, 60), 2 ** 62 + 3 * 2 ** 60 - 1, "down"), -4)

    def test_the_greatest_number_of_the_widest_width(self):
        self.assertEqual(number_of(MOST, endless_in(MOST) - 1), (2 ** 61 - 1) * 2 ** 963)

    def test_as_other_programs_reckon(self):
        for word in range(0x3F00000000000000, 0x4400000000000000, 0x0001234567890123):
            value = struct.unpack("<d", struct.pack("<Q", word))[0]
            self.assertEqual(number_of(DOUBLE, word), round(value))
            self.assertEqual(number_of(DOUBLE, word, "in"), int(value))

    def test_endless_and_nones_are_refused(self):
        for width in WIDTHS:
            for word in words_to_try(width):
                if not is_number(width, word):
                    self.assert_refused("NoNumber", number_of, width, word)
                    self.assert_refused("NoNumber", number_of, width, word, "up")
                    self.assert_refused("NoNumber", number_of, width, word, "no way")
                    self.assert_refused("NoNumber", number_of, width, word, None)

    def test_what_is_no_word_and_what_is_no_way(self):
        for width in WIDTHS:
            for wrong in not_words(width):
                self.assert_refused("NoWord", number_of, width, wrong)
                self.assert_refused("NoWord", number_of, width, wrong, "no way")
        for wrong in NOT_WAYS:
            for word in (0, 0x8000, 0x3C00, 0x3E00, 0x0001):
                self.assert_refused("NoWay", number_of, HALF, word, wrong)


class WordsOfNumbers(PromiseTest):
    def each_way(self, n, *answers):
        for way, answer in zip(WAYS, answers if len(answers) > 1 else answers * 5):
            self.assert_answer(of_number(HALF, n, way), answer, n, way)

    def test_known_numbers(self):
        self.each_way(0, (0, 0))
        self.each_way(1, (0x3C00, 0))
        self.each_way(-5, (0xC500, 0))
        self.each_way(65504, (0x7BFF, 0))
        self.each_way(2049, (0x6800, 16), (0x6801, 16), (0x6800, 16), (0x6801, 16), (0x6800, 16))
        self.each_way(-2051, (0xE802, 16), (0xE802, 16), (0xE801, 16), (0xE801, 16), (0xE802, 16))
        self.each_way(65536, (0x7C00, 20), (0x7C00, 20), (0x7BFF, 20), (0x7C00, 20), (0x7BFF, 20))
        self.each_way(-GREAT, (0xFC00, 20), (0xFC00, 20), (0xFBFF, 20), (0xFBFF, 20), (0xFC00, 20))

    def test_all_widths(self):
        numbers = list(range(-40, 41)) + [2 ** k + shift for k in (10, 11, 12, 24, 53, 60, 61, 62, 127, 128, 1023, 1024)
                                          for shift in (-2, -1, 0, 1, 2)] + [GREAT, -GREAT, 10 ** 300, -10 ** 300]
        for width in WIDTHS + FINE:
            for n in numbers:
                for way in WAYS:
                    self.assert_answer(of_number(width, n, way), taken_by_promise(width, Fraction(n), way), width, n, way)
                self.assertEqual(of_number(width, n), of_number(width, n, "even"))

    def test_there_and_back(self):
        for n in list(range(-3000, 3000, 7)) + [2 ** 61 - 1, -2 ** 61, 2 ** 1023, 3 * 2 ** 900]:
            word, marks = of_number(MOST, n)
            self.assertEqual((number_of(MOST, word), marks), (n, 0))

    def test_what_is_no_way(self):
        for wrong in NOT_WAYS:
            for n in (0, 1, -1, 2049, GREAT):
                self.assert_refused("NoWay", of_number, HALF, n, wrong)


if __name__ == "__main__":
    unittest.main()

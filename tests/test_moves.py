"""[35] to [38] Words scaled, widths that hold others, and words moved to other widths; of [4] what speaks of moved."""

import itertools
import math
import struct
import unittest
from fractions import Fraction

from floatforge.moves import holds_width, moved, scaled
from floatforge.quotients import over
from floatforge.roots import root
from floatforge.sums import minus, plus, times
from floatforge.widths import width_of
from tests.helpers import (
    NARROW, NOT_WAYS, NOT_WIDTHS, WAYS, WIDTHS, PromiseTest, endless_in, is_none, is_number, kind_by_parts, none_in,
    not_words, numbers_of, sign_of, taken_by_promise, value_by_promise, words_to_try,
)

HALF = width_of(5, 10)
BRAIN = width_of(8, 7)
SINGLE = width_of(8, 23)
DOUBLE = width_of(11, 52)
LEAST = width_of(2, 1)
MOST = width_of(11, 60)


def answer_held(width, other, word, factor, way):
    """A word's value times a factor, in another width."""
    kind = kind_by_parts(width, word)
    sign = word // sign_of(width) * sign_of(other)
    if kind in ("loud", "still"):
        return none_in(other), 1 if kind == "loud" else 0
    if kind == "endless":
        return endless_in(other) + sign, 0
    if kind == "nought":
        return sign, 0
    return taken_by_promise(other, value_by_promise(width, word) * factor, way)


class Scaled(PromiseTest):
    def each_way(self, word, j, *answers):
        for way, answer in zip(WAYS, answers if len(answers) > 1 else answers * 5):
            self.assert_answer(scaled(HALF, word, j, way), answer, hex(word), j, way)

    def test_ordinary_words(self):
        self.each_way(0x3C00, 0, (0x3C00, 0))
        self.each_way(0x3C00, 1, (0x4000, 0))
        self.each_way(0xC200, -1, (0xBE00, 0))
        self.each_way(0x0001, 24, (0x3C00, 0))
        self.each_way(0x3C00, -24, (0x0001, 0))
        self.each_way(0x83FF, 1, (0x87FE, 0))

    def test_below_the_least_number(self):
        self.each_way(0x3C00, -25, (0, 24), (1, 24), (0, 24), (1, 24), (0, 24))
        self.each_way(0xBC01, -25, (0x8001, 24), (0x8001, 24), (0x8000, 24), (0x8000, 24), (0x8001, 24))
        self.each_way(0x0001, -5000, (0, 24), (0, 24), (0, 24), (1, 24), (0, 24))
        self.each_way(0x8001, -1, (0x8000, 24), (0x8001, 24), (0x8000, 24), (0x8000, 24), (0x8001, 24))
        self.each_way(0x0401, -1, (0x0200, 24), (0x0201, 24), (0x0200, 24), (0x0201, 24), (0x0200, 24))

    def test_beyond_the_greatest(self):
        self.each_way(0x3C00, 15, (0x7800, 0))
        self.each_way(0x3C00, 16, (0x7C00, 20), (0x7C00, 20), (0x7BFF, 20), (0x7C00, 20), (0x7BFF, 20))
        self.each_way(0x8001, 5000, (0xFC00, 20), (0xFC00, 20), (0xFBFF, 20), (0xFBFF, 20), (0xFC00, 20))

    def test_noughts_endless_and_nones(self):
        for j in (-5000, -1, 0, 1, 5000):
            for word in (0x0000, 0x8000, 0x7C00, 0xFC00):
                self.each_way(word, j, (word, 0))
            for word in (0x7E00, 0xFE00, 0x7FFF, 0xFFFF):
                self.each_way(word, j, (0x7E00, 0))
            for word in (0x7C01, 0xFC01, 0xFDFF):
                self.each_way(word, j, (0x7E00, 1))

    def test_all_widths(self):
        for width in WIDTHS:
            words = words_to_try(width)
            for word in words if width in NARROW[:4] else words[::5]:
                for j in (-5000, -1100, -62, -3, -1, 0, 1, 2, 5, 70, 1030, 5000):
                    factor = Fraction(2) ** j
                    for way in WAYS:
                        expected = answer_held(width, width, word, factor, way)
                        self.assert_answer(scaled(width, word, j, way), expected, width, word, j, way)
                    self.assertEqual(scaled(width, word, j), scaled(width, word, j, "even"))

    def test_as_other_programs_reckon(self):
        for word in range(0, 0x7FF0000000000000, 0x123456789012345):
            value = struct.unpack("<d", struct.pack("<Q", word))[0]
            for j in (-2100, -1000, -53, -1, 1, 40):
                try:
                    there = math.ldexp(value, j)
                except OverflowError:
                    there = math.inf
                self.assertEqual(scaled(DOUBLE, word, j)[0], struct.unpack("<Q", struct.pack("<d", there))[0])

    def test_what_is_no_word_and_what_is_no_way(self):
        for width in WIDTHS:
            for wrong in not_words(width):
                self.assert_refused("NoWord", scaled, width, wrong, 1)
                self.assert_refused("NoWord", scaled, width, wrong, 1, "no way")
        for wrong in NOT_WAYS:
            for word in (0, 0x8000, 0x3C00, 0x0001, 0x7C00, 0xFC00, 0x7E00, 0x7C01):
                self.assert_refused("NoWay", scaled, HALF, word, 1, wrong)

    def test_what_is_no_width(self):
        for wrong in NOT_WIDTHS:
            self.assert_refused("NoWidth", scaled, wrong, 0, 0)


class Holds(PromiseTest):
    def test_known_widths(self):
        told = (
            (HALF, HALF, True), (SINGLE, HALF, True), (HALF, SINGLE, False), (SINGLE, BRAIN, True), (BRAIN, HALF, False),
            (HALF, BRAIN, False), (MOST, DOUBLE, True), (DOUBLE, MOST, False), (MOST, LEAST, True), (LEAST, MOST, False),
            ((5, 11), (5, 10), True), ((6, 10), (5, 10), True), ((4, 11), (5, 10), False), ((6, 9), (5, 10), False),
        )
        for width, other, answer in told:
            with self.subTest(width=width, other=other):
                self.assertIs(holds_width(width, other), answer)

    def test_just_where_each_value_is_a_value(self):
        widths = [(e, f) for e in (2, 3, 4) for f in (1, 2, 3)]
        values = {width: {value_by_promise(width, word) for word in range(endless_in(width))} for width in widths}
        for width, other in itertools.product(widths, repeat=2):
            self.assertIs(holds_width(width, other), values[other] <= values[width])

    def test_all_pairs(self):
        for width, other in itertools.product(WIDTHS, repeat=2):
            self.assertIs(holds_width(width, other), not (width[0] < other[0] or width[1] < other[1]))

    def test_what_is_no_width(self):
        for wrong in NOT_WIDTHS:
            self.assert_refused("NoWidth", holds_width, wrong, HALF)
            self.assert_refused("NoWidth", holds_width, HALF, wrong)


class Moved(PromiseTest):
    def each_way(self, width, other, word, *answers):
        for way, answer in zip(WAYS, answers if len(answers) > 1 else answers * 5):
            self.assert_answer(moved(width, other, word, way), answer, width, other, hex(word), way)

    def test_to_a_width_that_holds_it(self):
        self.each_way(HALF, SINGLE, 0x3C00, (0x3F800000, 0))
        self.each_way(HALF, SINGLE, 0x8001, (0xB3800000, 0))
        self.each_way(HALF, SINGLE, 0xFBFF, (0xC77FE000, 0))
        self.each_way(LEAST, MOST, 0b0001, (1022 * 2 ** 60, 0))

    def test_to_a_width_of_less(self):
        # Less in F, in E, and in both.
        self.each_way(SINGLE, BRAIN, 0x3F808000, (0x3F80, 16), (0x3F81, 16), (0x3F80, 16), (0x3F81, 16), (0x3F80, 16))
        self.each_way(SINGLE, BRAIN, 0x3F800000, (0x3F80, 0))
        self.each_way(SINGLE, BRAIN, 0x7F7FFFFF, (0x7F80, 20), (0x7F80, 20), (0x7F7F, 16), (0x7F80, 20), (0x7F7F, 16))
        self.each_way(BRAIN, HALF, 0x3F81, (0x3C08, 0))
        self.each_way(BRAIN, HALF, 0xC780, (0xFC00, 20), (0xFC00, 20), (0xFBFF, 20), (0xFBFF, 20), (0xFC00, 20))
        self.each_way(BRAIN, HALF, 0x3300, (0, 24), (1, 24), (0, 24), (1, 24), (0, 24))
        self.each_way(SINGLE, HALF, 0x477FF000, (0x7C00, 20), (0x7C00, 20), (0x7BFF, 16), (0x7C00, 20), (0x7BFF, 16))
        self.each_way(SINGLE, HALF, 0x80000001, (0x8000, 24), (0x8000, 24), (0x8000, 24), (0x8000, 24), (0x8001, 24))

    def test_noughts_and_endless_of_either_sign(self):
        for width, other in itertools.product(WIDTHS, repeat=2):
            for way in WAYS:
                for one, two in ((0, 0), (endless_in(width), endless_in(other))):
                    self.assert_answer(moved(width, other, one, way), (two, 0))
                    self.assert_answer(moved(width, other, one + sign_of(width), way), (two + sign_of(other), 0))

    def test_loud_and_still_words(self):
        for width, other in itertools.product(WIDTHS, repeat=2):
            for word in words_to_try(width):
                if is_none(width, word):
                    marks = 1 if kind_by_parts(width, word) == "loud" else 0
                    self.assert_answer(moved(width, other, word), (none_in(other), marks), width, other, word)

    def test_all_widths(self):
        for width, other in itertools.product(WIDTHS, repeat=2):
            for word in words_to_try(width)[::5]:
                for way in WAYS:
                    expected = answer_held(width, other, word, 1, way)
                    self.assert_answer(moved(width, other, word, way), expected, width, other, word, way)
                self.assertEqual(moved(width, other, word), moved(width, other, word, "even"))

    def test_there_and_back(self):
        for width, other in itertools.product(WIDTHS, repeat=2):
            if width[0] <= other[0] and width[1] <= other[1]:
                for word in words_to_try(width):
                    if not is_none(width, word):
                        self.check_there_and_back(width, other, word)

    def check_there_and_back(self, width, other, word):
        for way in WAYS:
            there = moved(width, other, word, way)
            self.assertEqual(there[1], 0)
            self.assert_answer(moved(other, width, there[0], way), (word, 0), width, other, word, way)

    def test_as_other_programs_reckon(self):
        for word in range(0x36A0000000000000, 0x47EFFFFFE0000000, 0x00012345678901234):
            value = struct.unpack("<d", struct.pack("<Q", word))[0]
            single = struct.unpack("<I", struct.pack("<f", value))[0]
            self.assertEqual(moved(DOUBLE, SINGLE, word)[0], single)
            self.assertEqual(moved(SINGLE, DOUBLE, single)[0],
                             struct.unpack("<Q", struct.pack("<d", struct.unpack("<f", struct.pack("<I", single))[0]))[0])

    def test_what_is_no_word_of_the_first_width(self):
        for width, other in ((LEAST, HALF), (HALF, LEAST), (HALF, MOST), (MOST, HALF)):
            for wrong in not_words(width):
                self.assert_refused("NoWord", moved, width, other, wrong)
                self.assert_refused("NoWord", moved, width, other, wrong, "no way")
        self.assert_refused("NoWord", moved, HALF, SINGLE, 0x3F800000)
        self.assertEqual(moved(SINGLE, HALF, 0x3F800000), (0x3C00, 0))

    def test_what_is_no_way_needed_or_not(self):
        for wrong in NOT_WAYS:
            for word in (0, 0x8000, 0x3C00, 0x0001, 0x7C00, 0xFC00, 0x7E00, 0x7C01):
                for other in (LEAST, HALF, MOST):
                    self.assert_refused("NoWay", moved, HALF, other, word, wrong)

    def test_what_is_no_width(self):
        for wrong in NOT_WIDTHS:
            self.assert_refused("NoWidth", moved, wrong, HALF, 0)
            self.assert_refused("NoWidth", moved, HALF, wrong, 0)
            self.assert_refused("NoWidth", moved, HALF, wrong, -1)
            self.assert_refused("NoWidth", moved, wrong, wrong, -1, "no way")


class DoneInAGreaterWidth(PromiseTest):
    """[38] Reckoned in a width that is great enough and moved back, the word is the same."""

    def check_pairs(self, width, other, ones, others):
        for way in WAYS:
            for one, two in itertools.product(ones, others):
                there = moved(width, other, one)[0], moved(width, other, two)[0]
                for function in (plus, minus, times, over):
                    done = moved(other, width, function(other, *there, way)[0], way)[0]
                    self.assertEqual(done, function(width, one, two, way)[0], (function.__name__, width, other, one, two, way))

    def test_all_pairs_of_narrow_widths(self):
        for width in ((2, 1), (2, 2), (3, 1)):
            words = words_to_try(width)
            self.check_pairs(width, (width[0] + 2, 2 * width[1] + 3), words, words)

    def test_pairs_of_other_widths(self):
        for width, other in (((3, 2), (5, 7)), (HALF, (7, 23)), (HALF, DOUBLE), (BRAIN, (10, 17)), (SINGLE, DOUBLE), ((9, 28), (11, 59))):
            words = words_to_try(width)
            self.check_pairs(width, other, words[::3], words[::4])

    def test_roots(self):
        for width in NARROW + (HALF, BRAIN, SINGLE, (9, 28)):
            other = (width[0] + 2, 2 * width[1] + 3)
            for way in WAYS:
                for word in words_to_try(width):
                    there = root(other, moved(width, other, word)[0], way)[0]
                    self.assertEqual(moved(other, width, there, way)[0], root(width, word, way)[0], (width, word, way))


class WordsValue(PromiseTest):
    """[4] A value that a word of the other width has is moved to a word with this value, without marks."""

    def test_values_that_both_widths_have(self):
        for width, other in itertools.product(NARROW, repeat=2):
            values = {value_by_promise(other, word) for word in numbers_of(other)}
            for word in numbers_of(width):
                value = value_by_promise(width, word)
                for way in WAYS:
                    answer, marks = moved(width, other, word, way)
                    self.assertEqual(marks == 0, value in values)
                    if marks == 0:
                        self.assertTrue(is_number(other, answer))
                        self.assertEqual(value_by_promise(other, answer), value)


if __name__ == "__main__":
    unittest.main()

"""[30] and [31] Whole roots, and roots of words; of [4] what speaks of root."""

import math
import struct
import unittest
from fractions import Fraction

from floatforge.roots import root, whole_root
from floatforge.widths import width_of
from tests.helpers import (
    NARROW, NOT_WAYS, NOT_WHOLE, NOT_WIDTHS, WAYS, WIDTHS, PromiseTest, endless_in, kind_by_parts, none_in, not_words,
    sign_of, size_taken, value_by_promise, words_to_try,
)

HALF = width_of(5, 10)
DOUBLE = width_of(11, 52)
LEAST = width_of(2, 1)
MOST = width_of(11, 60)

GREAT = 10 ** 2000 - 1


def root_held(width, word, way):
    """What a root has to be: squares of words and of what lies amid them are held against the value."""
    kind = kind_by_parts(width, word)
    if kind in ("loud", "still"):
        return none_in(width), 1 if kind == "loud" else 0
    if kind == "nought":
        return word, 0
    if word >= sign_of(width):
        return none_in(width), 1
    if kind == "endless":
        return word, 0
    value = value_by_promise(width, word)
    return size_taken(width, lambda other: (value > other * other) - (value < other * other), False, way)


class WholeRoots(PromiseTest):
    def test_known_numbers(self):
        told = {0: 0, 1: 1, 2: 1, 3: 1, 4: 2, 8: 2, 9: 3, 15: 3, 16: 4, 24: 4, 25: 5, 99: 9, 100: 10, 10 ** 20: 10 ** 10}
        for n, answer in told.items():
            self.assertEqual(whole_root(n), answer)

    def test_little_numbers(self):
        for n in range(3000):
            self.assert_whole(whole_root(n))
            self.assertEqual(whole_root(n), math.isqrt(n))

    def test_squares_and_beside(self):
        roots = [2 ** k + shift for k in range(1, 300, 7) for shift in (-1, 0, 1)] + [10 ** k for k in (50, 500, 999)]
        for one in roots + [10 ** 1000 - 1, 3 ** 2000]:
            square = one * one
            self.assertEqual(whole_root(square), one)
            self.assertEqual(whole_root(square - 1), one - 1)
            self.assertEqual(whole_root(square + 2 * one), one)
            self.assertEqual(whole_root(square + 2 * one + 1), one + 1)
            if one > 0:
                self.assertEqual(whole_root(square + 1), one)

    def test_great_numbers(self):
        for n in [GREAT, GREAT // 2, 10 ** 1999, 2 ** 6643, 2 ** 6642, 2 ** 6643 - 1] + [7 ** k for k in range(0, 2300, 97)]:
            self.assertEqual(whole_root(n), math.isqrt(n))

    def test_what_is_below_nought_is_refused(self):
        for wrong in (-1, -2, -4, -100, -GREAT):
            self.assert_refused("NoNumber", whole_root, wrong)

    def test_what_is_no_whole_number_is_refused(self):
        for wrong in NOT_WHOLE:
            self.assert_refused("NoNumber", whole_root, wrong)


class Roots(PromiseTest):
    def each_way(self, word, *answers):
        for way, answer in zip(WAYS, answers if len(answers) > 1 else answers * 5):
            self.assert_answer(root(HALF, word, way), answer, hex(word), way)

    def test_squares(self):
        self.each_way(0x3C00, (0x3C00, 0))
        self.each_way(0x4400, (0x4000, 0))
        self.each_way(0x4880, (0x4200, 0))
        self.each_way(0x3400, (0x3800, 0))
        self.each_way(0x0001, (0x0C00, 0))
        self.each_way(0x0004, (0x1000, 0))

    def test_beside_squares(self):
        self.each_way(0x4000, (0x3DA8, 16), (0x3DA8, 16), (0x3DA8, 16), (0x3DA9, 16), (0x3DA8, 16))
        self.each_way(0x4200, (0x3EEE, 16), (0x3EEE, 16), (0x3EED, 16), (0x3EEE, 16), (0x3EED, 16))
        self.each_way(0x3C01, (0x3C00, 16), (0x3C00, 16), (0x3C00, 16), (0x3C01, 16), (0x3C00, 16))
        # Just below the middle: 1 less half a step has a square that is greater by a fourth of a step's square.
        self.each_way(0x3BFF, (0x3BFF, 16), (0x3BFF, 16), (0x3BFF, 16), (0x3C00, 16), (0x3BFF, 16))
        self.each_way(0x0002, (0x0DA8, 16), (0x0DA8, 16), (0x0DA8, 16), (0x0DA9, 16), (0x0DA8, 16))

    def test_noughts_endless_and_nones(self):
        self.each_way(0x0000, (0x0000, 0))
        self.each_way(0x8000, (0x8000, 0))
        self.each_way(0x7C00, (0x7C00, 0))
        self.each_way(0xFC00, (0x7E00, 1))
        for word in (0x7E00, 0xFE00, 0x7FFF, 0xFFFF, 0x7E01):
            self.each_way(word, (0x7E00, 0))
        for word in (0x7C01, 0xFC01, 0x7DFF, 0xFDFF):
            self.each_way(word, (0x7E00, 1))

    def test_below_nought(self):
        for word in (0x8001, 0x83FF, 0x8400, 0xBC00, 0xC400, 0xFBFF):
            self.each_way(word, (0x7E00, 1))

    def test_roots_that_are_small(self):
        # With few bits of exponent a root of a small word may itself lie below the least plain one.
        width = (2, 60)
        self.assertEqual(root(width, 1), (2 ** 30, 0))
        for way, word in (("in", math.isqrt(2 * 2 ** 60)), ("up", math.isqrt(2 * 2 ** 60) + 1)):
            self.assert_answer(root(width, 2, way), (word, 24), way)
        self.assert_answer(root(LEAST, 1), (1, 24))
        self.assert_answer(root(LEAST, 1, "up"), (2, 24))
        self.assert_answer(root(LEAST, 1, "in"), (1, 24))

    def test_all_widths(self):
        for width in WIDTHS:
            for word in words_to_try(width):
                for way in WAYS:
                    self.assert_answer(root(width, word, way), root_held(width, word, way), width, word, way)
                self.assertEqual(root(width, word), root(width, word, "even"))

    def test_all_small_exponents_of_the_widest_fraction(self):
        for e in range(2, 12):
            for f in (1, 2, 3, 31, 59, 60):
                for word in (1, 2, 3, 2 ** f - 1, 2 ** f, 2 ** f + 1, 2 ** (f - 1), (2 ** e - 1) * 2 ** f - 1):
                    for way in ("even", "up", "down"):
                        self.assert_answer(root((e, f), word, way), root_held((e, f), word, way), e, f, word, way)

    def test_as_other_programs_reckon(self):
        for word in [1, 2, 3, 0x000FFFFFFFFFFFFF, 0x0010000000000000, 0x7FEFFFFFFFFFFFFF] + list(
                range(0, 0x7FF0000000000000, 0x12345678901234)):
            value = math.sqrt(struct.unpack("<d", struct.pack("<Q", word))[0])
            answer, marks = root(DOUBLE, word)
            self.assertEqual(answer, struct.unpack("<Q", struct.pack("<d", value))[0])
            self.assertEqual(marks == 0, value_by_promise(DOUBLE, answer) ** 2 == value_by_promise(DOUBLE, word))

    def test_where_the_root_is_a_words_value_there_are_no_marks(self):
        for width in NARROW:
            for word in range(1, endless_in(width)):
                square = value_by_promise(width, word) ** 2
                for other in range(1, endless_in(width)):
                    if value_by_promise(width, other) == square:
                        for way in WAYS:
                            self.assert_answer(root(width, other, way), (word, 0), width, other, way)

    def test_roots_in_other_words(self):
        self.assertEqual(value_by_promise(MOST, root(MOST, 1)[0]), Fraction(1, 2 ** 541))


class Refused(PromiseTest):
    def test_what_is_no_word(self):
        for width in WIDTHS:
            for wrong in not_words(width):
                self.assert_refused("NoWord", root, width, wrong)
                self.assert_refused("NoWord", root, width, wrong, "up")
                self.assert_refused("NoWord", root, width, wrong, "no way")
                self.assert_refused("NoWord", root, width, wrong, None)

    def test_what_is_no_way_needed_or_not(self):
        for wrong in NOT_WAYS:
            for word in (0, 0x8000, 0x3C00, 0x4000, 0xBC00, 0x7C00, 0xFC00, 0x7E00, 0x7C01):
                self.assert_refused("NoWay", root, HALF, word, wrong)

    def test_what_is_no_width(self):
        for wrong in NOT_WIDTHS:
            self.assert_refused("NoWidth", root, wrong, 0)


if __name__ == "__main__":
    unittest.main()

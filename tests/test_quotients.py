"""[29] and [32] Over of two words, and what is left of a word by another one; of [4] what speaks of over."""

import itertools
import math
import struct
import unittest

from floatforge.quotients import left_of, over
from floatforge.widths import width_of
from tests.helpers import (
    NARROW, NOT_WAYS, NOT_WIDTHS, WAYS, WIDE, WIDTHS, PromiseTest, endless_in, is_loud, is_none, is_number, none_in,
    not_words, numbers_of, sign_of, taken_by_promise, value_by_promise, words_to_try,
)

HALF = width_of(5, 10)
DOUBLE = width_of(11, 52)
LEAST = width_of(2, 1)
MOST = width_of(11, 60)


def is_nought(width, word):
    return word % sign_of(width) == 0


def nones_held(width, one, other):
    """The answer where nones are handed in, else None."""
    if is_loud(width, one) or is_loud(width, other):
        return none_in(width), 1
    if is_none(width, one) or is_none(width, other):
        return none_in(width), 0
    return None


def over_held(width, one, other, way):
    """What one over another has to be, reckoned with Fractions."""
    if nones_held(width, one, other):
        return nones_held(width, one, other)
    sign = sign_of(width) * (one // sign_of(width) ^ other // sign_of(width))
    ends = not is_number(width, one), not is_number(width, other)
    noughts = is_nought(width, one), is_nought(width, other)
    if all(ends) or all(noughts):
        return none_in(width), 1
    if ends[0]:
        return endless_in(width) + sign, 0
    if ends[1] or noughts[0]:
        return sign, 0
    if noughts[1]:
        return endless_in(width) + sign, 2
    return taken_by_promise(width, value_by_promise(width, one) / value_by_promise(width, other), way)


def left_held(width, one, other):
    """What is left, reckoned with Fractions: round() takes just a half to the even whole number."""
    if nones_held(width, one, other):
        return nones_held(width, one, other)
    if not is_number(width, one) or is_nought(width, other):
        return none_in(width), 1
    if not is_number(width, other):
        return one, 0
    first, second = value_by_promise(width, one), value_by_promise(width, other)
    rest = first - round(first / second) * second
    if rest == 0:
        return one // sign_of(width) * sign_of(width), 0
    return taken_by_promise(width, rest, "even")


def bits(value):
    return struct.unpack("<Q", struct.pack("<d", value))[0]


def value(word):
    return struct.unpack("<d", struct.pack("<Q", word))[0]


class Over(PromiseTest):
    def each_way(self, one, other, *answers):
        for way, answer in zip(WAYS, answers if len(answers) > 1 else answers * 5):
            self.assert_answer(over(HALF, one, other, way), answer, hex(one), hex(other), way)

    def test_ordinary_words(self):
        self.each_way(0x4200, 0x4000, (0x3E00, 0))
        self.each_way(0x3C00, 0xC400, (0xB400, 0))
        self.each_way(0x3C00, 0x4200, (0x3555, 16), (0x3555, 16), (0x3555, 16), (0x3556, 16), (0x3555, 16))
        self.each_way(0xBC00, 0x4200, (0xB555, 16), (0xB555, 16), (0xB555, 16), (0xB555, 16), (0xB556, 16))

    def test_nones(self):
        for one, other in ((0x7E01, 0x3C00), (0x3C00, 0xFE00), (0x7E00, 0), (0, 0x7FFF), (0x7C00, 0x7E00), (0x7E00, 0x7E01)):
            self.each_way(one, other, (0x7E00, 0))
        for one, other in ((0x7C01, 0x3C00), (0, 0xFC01), (0x7E00, 0x7C01), (0xFC01, 0x7E00), (0x7C01, 0), (0x7C00, 0x7DFF)):
            self.each_way(one, other, (0x7E00, 1))

    def test_endless_over_endless_and_nought_over_nought(self):
        for one, other in itertools.product((0x7C00, 0xFC00), repeat=2):
            self.each_way(one, other, (0x7E00, 1))
        for one, other in itertools.product((0, 0x8000), repeat=2):
            self.each_way(one, other, (0x7E00, 1))

    def test_endless_over_a_number(self):
        for other in (0x3C00, 0x0001, 0x7BFF, 0x0000):
            self.each_way(0x7C00, other, (0x7C00, 0))
            self.each_way(0xFC00, other, (0xFC00, 0))
            self.each_way(0x7C00, other + 0x8000, (0xFC00, 0))
            self.each_way(0xFC00, other + 0x8000, (0x7C00, 0))

    def test_a_number_over_endless(self):
        for one in (0x3C00, 0x0001, 0x7BFF, 0x0000):
            self.each_way(one, 0x7C00, (0, 0))
            self.each_way(one, 0xFC00, (0x8000, 0))
            self.each_way(one + 0x8000, 0x7C00, (0x8000, 0))
            self.each_way(one + 0x8000, 0xFC00, (0, 0))

    def test_a_nought_over_a_number(self):
        for other in (0x3C00, 0x0001, 0x7BFF):
            self.each_way(0, other, (0, 0))
            self.each_way(0x8000, other, (0x8000, 0))
            self.each_way(0, other + 0x8000, (0x8000, 0))
            self.each_way(0x8000, other + 0x8000, (0, 0))

    def test_a_number_over_a_nought(self):
        for one in (0x3C00, 0x0001, 0x7BFF):
            self.each_way(one, 0, (0x7C00, 2))
            self.each_way(one, 0x8000, (0xFC00, 2))
            self.each_way(one + 0x8000, 0, (0xFC00, 2))
            self.each_way(one + 0x8000, 0x8000, (0x7C00, 2))

    def test_beyond_the_greatest_and_below_the_least(self):
        self.each_way(0x7BFF, 0x0001, (0x7C00, 20), (0x7C00, 20), (0x7BFF, 20), (0x7C00, 20), (0x7BFF, 20))
        self.each_way(0x8001, 0x7BFF, (0x8000, 24), (0x8000, 24), (0x8000, 24), (0x8000, 24), (0x8001, 24))
        self.each_way(0x0001, 0x4000, (0, 24), (1, 24), (0, 24), (1, 24), (0, 24))
        self.each_way(0x0003, 0x4000, (2, 24), (2, 24), (1, 24), (2, 24), (1, 24))
        self.each_way(0x0002, 0x4000, (1, 0))

    def test_all_pairs_of_narrow_widths(self):
        for width in NARROW[:5]:
            words = words_to_try(width)
            for one, other in itertools.product(words, repeat=2):
                self.check_held(width, one, other)

    def test_pairs_of_other_widths(self):
        for width in WIDE + NARROW[5:]:
            words = words_to_try(width)
            for one, other in itertools.product(words[::3], words[::max(1, len(words) // 24)]):
                self.check_held(width, one, other)

    def check_held(self, width, one, other):
        for way in WAYS:
            self.assert_answer(over(width, one, other, way), over_held(width, one, other, way), width, one, other, way)
        self.assertEqual(over(width, one, other), over(width, one, other, "even"))

    def test_as_other_programs_reckon(self):
        words = [1, 0x000FFFFFFFFFFFFF, 0x0010000000000000, 0x3FF0000000000001, 0x7FEFFFFFFFFFFFFF]
        words += [place * 0x123456789ABCDEF % 0x7FF0000000000000 for place in range(1, 40)]
        words += [word + 2 ** 63 for word in words[::2]]
        for one, other in itertools.product(words, repeat=2):
            self.assertEqual(over(DOUBLE, one, other)[0], bits(value(one) / value(other)))


class Left(PromiseTest):
    def check(self, one, other, word, marks=0):
        self.assert_answer(left_of(HALF, one, other), (word, marks), hex(one), hex(other))

    def test_ordinary_words(self):
        # 5 by 3: 5 - 2 times 3; 7 by 4: 7 - 2 times 4; 7.5 by 2: 7.5 - 4 times 2.
        self.check(0x4500, 0x4200, 0xBC00)
        self.check(0x4700, 0x4400, 0xBC00)
        self.check(0x4780, 0x4000, 0xB800)
        self.check(0x4400, 0x4200, 0x3C00)
        self.check(0xC400, 0x4200, 0xBC00)
        self.check(0x4400, 0xC200, 0x3C00)
        self.check(0xC400, 0xC200, 0xBC00)

    def test_where_two_multiples_are_equally_near(self):
        # 1 by 2 lies amid 0 and 2, 3 by 2 amid 2 and 4, 5 by 2 amid 4 and 6: n is 0, 2 and 2.
        self.check(0x3C00, 0x4000, 0x3C00)
        self.check(0x4200, 0x4000, 0xBC00)
        self.check(0x4500, 0x4000, 0x3C00)
        self.check(0x4700, 0x4000, 0xBC00)
        self.check(0xBC00, 0x4000, 0xBC00)
        self.check(0xC200, 0x4000, 0x3C00)
        self.check(0xC500, 0xC000, 0xBC00)

    def test_where_nothing_is_left(self):
        self.check(0x4600, 0x4200, 0x0000)
        self.check(0xC600, 0x4200, 0x8000)
        self.check(0x4600, 0xC200, 0x0000)
        self.check(0xC600, 0xC200, 0x8000)
        self.check(0x0000, 0x4200, 0x0000)
        self.check(0x8000, 0x4200, 0x8000)
        self.check(0x8000, 0xC200, 0x8000)
        self.check(0x7BFF, 0x0001, 0x0000)
        self.check(0xFBFF, 0x0001, 0x8000)

    def test_by_endless(self):
        for one in (0x0000, 0x8000, 0x3C00, 0xBC00, 0x0001, 0x7BFF, 0xFBFF):
            self.check(one, 0x7C00, one)
            self.check(one, 0xFC00, one)

    def test_of_endless_and_by_a_nought(self):
        for one, other in itertools.product((0x7C00, 0xFC00), (0, 0x8000, 0x3C00, 0x8001, 0x7C00, 0xFC00)):
            self.check(one, other, 0x7E00, 1)
        for one, other in itertools.product((0x3C00, 0, 0x8000, 0xFBFF, 0x0001), (0, 0x8000)):
            self.check(one, other, 0x7E00, 1)

    def test_nones(self):
        for one, other in ((0x7E01, 0x3C00), (0x3C00, 0xFE00), (0x7E00, 0), (0x7C00, 0x7FFF), (0xFE01, 0x7E01)):
            self.check(one, other, 0x7E00, 0)
        for one, other in ((0x7C01, 0x3C00), (0, 0xFC01), (0x7E00, 0x7C01), (0xFC01, 0x7E00), (0x7C01, 0), (0x7C00, 0x7DFF)):
            self.check(one, other, 0x7E00, 1)

    def test_all_pairs_of_narrow_widths(self):
        for width in NARROW:
            words = words_to_try(width)
            for one, other in itertools.product(words[::2] if len(words) > 64 else words, words):
                self.assert_answer(left_of(width, one, other), left_held(width, one, other), width, one, other)

    def test_pairs_of_other_widths(self):
        for width in WIDE:
            words = words_to_try(width)
            for one, other in itertools.product(words, repeat=2):
                self.assert_answer(left_of(width, one, other), left_held(width, one, other), width, one, other)

    def test_what_is_left_is_never_more_than_half_and_without_marks(self):
        for width in WIDTHS:
            numbers = numbers_of(width)
            for one, other in itertools.product(numbers[::3], numbers):
                if not is_nought(width, other):
                    word, marks = left_of(width, one, other)
                    self.assertEqual(marks, 0)
                    self.assertLessEqual(2 * abs(value_by_promise(width, word)), abs(value_by_promise(width, other)))

    def test_as_other_programs_reckon(self):
        words = [1, 3, 0x000FFFFFFFFFFFFF, 0x0010000000000000, 0x3FF0000000000001, 0x4008000000000000, 0x7FEFFFFFFFFFFFFF]
        words += [place * 0x123456789ABCDEF % 0x7FF0000000000000 for place in range(1, 40)]
        words += [word + 2 ** 63 for word in words[::2]]
        for one, other in itertools.product(words, repeat=2):
            self.assertEqual(left_of(DOUBLE, one, other), (bits(math.remainder(value(one), value(other))), 0))


class Refused(PromiseTest):
    def test_what_is_no_word_in_either_place(self):
        for width in WIDTHS:
            for wrong in not_words(width):
                for fine in (0, 1, endless_in(width), endless_in(width) + 1, none_in(width)):
                    for function in (over, left_of):
                        self.assert_refused("NoWord", function, width, wrong, fine)
                        self.assert_refused("NoWord", function, width, fine, wrong)
                    self.assert_refused("NoWord", over, width, wrong, fine, "no way")
                    self.assert_refused("NoWord", over, width, fine, wrong, None)

    def test_what_is_no_way_needed_or_not(self):
        pairs = ((0x3C00, 0x4200), (0x3C00, 0x3C00), (0, 0), (0x3C00, 0), (0, 0x3C00), (0x7C00, 0x7C00), (0x7C00, 0),
                 (0, 0x7C00), (0x7E00, 0), (0, 0x7C01))
        for wrong in NOT_WAYS:
            for one, other in pairs:
                self.assert_refused("NoWay", over, HALF, one, other, wrong)

    def test_what_is_no_width(self):
        for wrong in NOT_WIDTHS:
            self.assert_refused("NoWidth", over, wrong, 0, 1)
            self.assert_refused("NoWidth", left_of, wrong, 0, 1)


if __name__ == "__main__":
    unittest.main()

"""[5] Widths: what is one, and the three numbers told of it."""

import unittest

from floatforge.exacts import fitting, value_of
from floatforge.widths import bias_of, least_power, many_words, width_of
from floatforge.words import bits_of, cut, joined, kind_of, none_of, signed, turned, unsigned, word_of
from tests.helpers import NOT_WHOLE, NOT_WIDTHS, WIDTHS, PromiseTest


class WidthOf(PromiseTest):
    def test_each_width_in_range_is_made(self):
        for e in range(2, 12):
            for f in range(1, 61):
                width = width_of(e, f)
                self.assert_tuple_of_wholes(width, 2)
                self.assertEqual(width, (e, f))

    def test_the_edges(self):
        self.assertEqual(width_of(2, 1), (2, 1))
        self.assertEqual(width_of(2, 60), (2, 60))
        self.assertEqual(width_of(11, 1), (11, 1))
        self.assertEqual(width_of(11, 60), (11, 60))

    def test_one_beyond_an_edge_is_refused(self):
        for e, f in ((1, 1), (1, 60), (12, 1), (12, 60), (2, 0), (11, 0), (2, 61), (11, 61)):
            self.assert_refused("NoWidth", width_of, e, f)

    def test_far_beyond_is_refused(self):
        for far in (-10 ** 1999, -5, -1, 0, 64, 10 ** 1999):
            self.assert_refused("NoWidth", width_of, far, 10)
            self.assert_refused("NoWidth", width_of, 5, far)

    def test_what_is_no_whole_number_is_refused(self):
        for wrong in NOT_WHOLE:
            self.assert_refused("NoWidth", width_of, wrong, 10)
            self.assert_refused("NoWidth", width_of, 5, wrong)
            self.assert_refused("NoWidth", width_of, wrong, wrong)


class ToldOfAWidth(PromiseTest):
    def test_many_words(self):
        self.assertEqual(many_words((2, 1)), 16)
        self.assertEqual(many_words((5, 10)), 65536)
        self.assertEqual(many_words((8, 23)), 4294967296)
        self.assertEqual(many_words((11, 52)), 18446744073709551616)
        self.assertEqual(many_words((11, 60)), 4722366482869645213696)

    def test_bias(self):
        told = [bias_of((e, 7)) for e in range(2, 12)]
        self.assertEqual(told, [1, 3, 7, 15, 31, 63, 127, 255, 511, 1023])

    def test_least_power(self):
        self.assertEqual(least_power((2, 1)), -1)
        self.assertEqual(least_power((2, 60)), -60)
        self.assertEqual(least_power((5, 10)), -24)
        self.assertEqual(least_power((8, 23)), -149)
        self.assertEqual(least_power((11, 52)), -1074)
        self.assertEqual(least_power((11, 1)), -1023)
        self.assertEqual(least_power((11, 60)), -1082)

    def test_all_widths(self):
        for e in range(2, 12):
            for f in range(1, 61):
                width = width_of(e, f)
                bias = 2 ** (e - 1) - 1
                self.assertEqual(many_words(width), 2 ** (1 + e + f))
                self.assertEqual(bias_of(width), bias)
                self.assertEqual(least_power(width), 1 - bias - f)

    def test_they_are_whole_numbers(self):
        for width in WIDTHS:
            self.assert_whole(many_words(width))
            self.assert_whole(bias_of(width))
            self.assert_whole(least_power(width))


class NoWidths(PromiseTest):
    def test_what_is_told_of_a_width_refuses_what_is_none(self):
        for wrong in NOT_WIDTHS:
            self.assert_refused("NoWidth", many_words, wrong)
            self.assert_refused("NoWidth", bias_of, wrong)
            self.assert_refused("NoWidth", least_power, wrong)

    def test_so_do_words_and_values(self):
        for wrong in NOT_WIDTHS:
            self.assert_refused("NoWidth", none_of, wrong)
            self.assert_refused("NoWidth", joined, wrong, 0, 0, 0)
            self.assert_refused("NoWidth", signed, wrong, 0, 0)
            self.assert_refused("NoWidth", word_of, wrong, "0 00 0")
            self.assert_refused("NoWidth", fitting, wrong, (0, 0))
            for function in (cut, kind_of, turned, unsigned, bits_of, value_of):
                self.assert_refused("NoWidth", function, wrong, 0)

    def test_a_width_handed_in_is_not_changed(self):
        width = width_of(5, 10)
        many_words(width)
        bias_of(width)
        least_power(width)
        self.assertEqual(width, (5, 10))


if __name__ == "__main__":
    unittest.main()

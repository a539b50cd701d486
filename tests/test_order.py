"""[16] to [18], [20] and [21] Ranks, the words beside a word, words compared and words in order."""

import itertools
import math
import struct
import unittest

from floatforge.order import after, ahead, compared, in_order, rank_of, word_at
from floatforge.widths import width_of
from tests.helpers import (
    NARROW, NOT_WHOLE, NOT_WIDTHS, WIDTHS, PromiseTest, endless_in, is_loud, is_none, not_words, numbers_of, sign_of,
    value_by_promise, words_to_try,
)

HALF = width_of(5, 10)
DOUBLE = width_of(11, 52)
LEAST = width_of(2, 1)
MOST = width_of(11, 60)


def sorting_value(width, word):
    """A number's value, and what stands above and below all for endless."""
    if word % sign_of(width) == endless_in(width):
        return math.inf if word < sign_of(width) else -math.inf
    return value_by_promise(width, word)


class Ranks(PromiseTest):
    def test_all_words_of_the_narrowest_width(self):
        ranks = [0, 1, 2, 3, 4, 5, 6, None, 0, -1, -2, -3, -4, -5, -6, None]
        self.assertEqual([rank_of(LEAST, word) for word in range(16)], ranks)

    def test_known_words(self):
        told = {
            0x0000: 0, 0x8000: 0, 0x0001: 1, 0x8001: -1, 0x3C00: 0x3C00, 0xBC00: -0x3C00, 0x7BFF: 0x7BFF,
            0x7C00: 0x7C00, 0xFC00: -0x7C00, 0x7C01: None, 0xFC01: None, 0x7E00: None, 0xFE00: None, 0xFFFF: None,
        }
        for word, rank in told.items():
            with self.subTest(word=word):
                self.assertEqual(rank_of(HALF, word), rank)
        self.assertEqual(rank_of(MOST, 2 ** 71 + 5), -5)
        self.assertEqual(rank_of(MOST, 2047 * 2 ** 60), 2047 * 2 ** 60)
        self.assertIsNone(rank_of(MOST, 2047 * 2 ** 60 + 1))

    def test_ranks_stand_as_the_values_do(self):
        for width in WIDTHS:
            words = [word for word in words_to_try(width) if not is_none(width, word)]
            for word in words:
                self.assert_whole(rank_of(width, word))
            for one, other in itertools.product(words[::3], words):
                ranks = rank_of(width, one), rank_of(width, other)
                values = sorting_value(width, one), sorting_value(width, other)
                self.assertEqual((ranks[0] < ranks[1], ranks[0] == ranks[1]), (values[0] < values[1], values[0] == values[1]))

    def test_the_rank_of_a_none_is_none(self):
        for width in WIDTHS:
            for word in words_to_try(width):
                self.assertEqual(rank_of(width, word) is None, is_none(width, word))

    def test_what_is_no_word_is_refused(self):
        for width in WIDTHS:
            for wrong in not_words(width):
                self.assert_refused("NoWord", rank_of, width, wrong)


class WordsAt(PromiseTest):
    def test_all_ranks_of_the_narrowest_width(self):
        self.assertEqual([word_at(LEAST, rank) for rank in range(7)], [0, 1, 2, 3, 4, 5, 6])
        self.assertEqual([word_at(LEAST, -rank) for rank in range(7)], [0, 9, 10, 11, 12, 13, 14])

    def test_edges(self):
        for width in WIDTHS:
            most, sign = endless_in(width), sign_of(width)
            told = {0: 0, 1: 1, -1: sign + 1, most: most, -most: sign + most, most - 1: most - 1, 1 - most: sign + most - 1}
            for rank, word in told.items():
                self.assert_whole(word_at(width, rank))
                self.assertEqual(word_at(width, rank), word)
            for wrong in (most + 1, -most - 1, most + 2, sign, -sign, 2 * sign, 10 ** 1999, -10 ** 1999):
                self.assert_refused("NoNumber", word_at, width, wrong)

    def test_back_from_the_rank(self):
        for width in WIDTHS:
            for word in words_to_try(width):
                if not is_none(width, word):
                    again = word_at(width, rank_of(width, word))
                    self.assertEqual(again, 0 if word == sign_of(width) else word)

    def test_what_is_no_rank_is_refused(self):
        for width in (LEAST, HALF, MOST):
            for wrong in NOT_WHOLE:
                self.assert_refused("NoNumber", word_at, width, wrong)


class Beside(PromiseTest):
    def test_all_words_of_the_narrowest_width(self):
        self.assertEqual([after(LEAST, word) for word in range(16)], [1, 2, 3, 4, 5, 6, 6, 7, 1, 8, 9, 10, 11, 12, 13, 15])
        self.assertEqual([ahead(LEAST, word) for word in range(16)], [9, 0, 1, 2, 3, 4, 5, 7, 9, 10, 11, 12, 13, 14, 14, 15])

    def test_round_nought(self):
        for width in WIDTHS:
            sign = sign_of(width)
            self.assertEqual(after(width, sign + 1), sign)
            self.assertEqual(ahead(width, 1), 0)
            self.assertEqual(after(width, 0), 1)
            self.assertEqual(after(width, sign), 1)
            self.assertEqual(ahead(width, 0), sign + 1)
            self.assertEqual(ahead(width, sign), sign + 1)

    def test_round_endless(self):
        for width in WIDTHS:
            most, sign = endless_in(width), sign_of(width)
            self.assertEqual(after(width, most), most)
            self.assertEqual(after(width, most - 1), most)
            self.assertEqual(ahead(width, most), most - 1)
            self.assertEqual(ahead(width, sign + most), sign + most)
            self.assertEqual(ahead(width, sign + most - 1), sign + most)
            self.assertEqual(after(width, sign + most), sign + most - 1)

    def test_nones_are_told_back(self):
        for width in WIDTHS:
            for word in words_to_try(width):
                if is_none(width, word):
                    self.assertEqual(after(width, word), word)
                    self.assertEqual(ahead(width, word), word)

    def test_no_word_stands_between(self):
        for width in NARROW:
            for word in numbers_of(width):
                rank = rank_of(width, word)
                self.assertEqual(rank_of(width, after(width, word)), rank + 1)
                self.assertEqual(rank_of(width, ahead(width, word)), rank - 1)
                self.assert_whole(after(width, word))

    def test_as_other_programs_tell_it(self):
        for word in list(range(0, 0x7FF0000000000000, 0x1234567890123)) + [0, 1, 0x000FFFFFFFFFFFFF, 0x7FEFFFFFFFFFFFFF]:
            for sign in (0, 2 ** 63):
                value = struct.unpack("<d", struct.pack("<Q", word + sign))[0]
                for function, goal in ((after, math.inf), (ahead, -math.inf)):
                    beside = struct.unpack("<Q", struct.pack("<d", math.nextafter(value, goal)))[0]
                    self.assertEqual(function(DOUBLE, word + sign), beside)

    def test_what_is_no_word_is_refused(self):
        for width in WIDTHS:
            for wrong in not_words(width):
                self.assert_refused("NoWord", after, width, wrong)
                self.assert_refused("NoWord", ahead, width, wrong)


class Compared(PromiseTest):
    def test_known_words(self):
        told = (
            (0x3C00, 0x4000, ("less", 0)), (0x4000, 0x3C00, ("more", 0)), (0x3C00, 0x3C00, ("same", 0)),
            (0x0000, 0x8000, ("same", 0)), (0x8000, 0x0000, ("same", 0)), (0xBC00, 0x3C00, ("less", 0)),
            (0xBC00, 0xC000, ("more", 0)), (0x8001, 0x0000, ("less", 0)), (0x0001, 0x8000, ("more", 0)),
            (0x7C00, 0x7BFF, ("more", 0)), (0x7C00, 0x7C00, ("same", 0)), (0xFC00, 0xFBFF, ("less", 0)),
            (0xFC00, 0x7C00, ("less", 0)), (0xFC00, 0xFC00, ("same", 0)),
            (0x7E00, 0x3C00, ("apart", 0)), (0x3C00, 0x7E00, ("apart", 0)), (0x7E00, 0x7E00, ("apart", 0)),
            (0xFE00, 0x7C00, ("apart", 0)), (0x7C01, 0x3C00, ("apart", 1)), (0x3C00, 0x7C01, ("apart", 1)),
            (0x7C01, 0x7E00, ("apart", 1)), (0x7E00, 0xFC01, ("apart", 1)), (0x7C01, 0x7C01, ("apart", 1)),
        )
        for one, other, answer in told:
            with self.subTest(one=hex(one), other=hex(other)):
                self.assertEqual(compared(HALF, one, other), answer)

    def test_all_widths(self):
        for width in WIDTHS:
            words = words_to_try(width)
            for one, other in itertools.product(words[::3], words):
                answer = compared(width, one, other)
                self.assertEqual((type(answer), type(answer[0]), type(answer[1])), (tuple, str, int))
                self.assertEqual(answer, self.compared_by_promise(width, one, other))

    def compared_by_promise(self, width, one, other):
        if is_none(width, one) or is_none(width, other):
            return "apart", 1 if is_loud(width, one) or is_loud(width, other) else 0
        values = sorting_value(width, one), sorting_value(width, other)
        return "same" if values[0] == values[1] else "less" if values[0] < values[1] else "more", 0

    def test_what_is_no_word_is_refused(self):
        for width in WIDTHS:
            for wrong in not_words(width):
                for fine in (0, 1, endless_in(width) + 1):
                    self.assert_refused("NoWord", compared, width, wrong, fine)
                    self.assert_refused("NoWord", compared, width, fine, wrong)
                self.assert_refused("NoWord", compared, width, wrong, wrong)


class InOrder(PromiseTest):
    def test_known_lists(self):
        told = (
            ([], []), ([0x3C00], [0x3C00]), ([0x7E00], [0x7E00]), ([0x4000, 0x3C00], [0x3C00, 0x4000]),
            ([0x0000, 0x8000], [0x8000, 0x0000]), ([0x8000, 0x0000], [0x8000, 0x0000]),
            ([0x0000, 0x8000, 0x0000, 0x8000], [0x8000, 0x8000, 0x0000, 0x0000]),
            ([0x0001, 0x0000, 0x8000, 0x8001], [0x8001, 0x8000, 0x0000, 0x0001]),
            ([0x7C00, 0xFC00, 0x3C00, 0xBC00], [0xFC00, 0xBC00, 0x3C00, 0x7C00]),
            ([0x3C00, 0x4000, 0x3C00], [0x3C00, 0x3C00, 0x4000]),
            ([0x7E01, 0x3C00, 0x7C01, 0xBC00, 0xFE00], [0xBC00, 0x3C00, 0x7E01, 0x7C01, 0xFE00]),
            ([0xFFFF, 0x7E00, 0xFC01, 0x7E00, 0x7C00], [0x7C00, 0xFFFF, 0x7E00, 0xFC01, 0x7E00]),
            ([0x7FFF, 0xFFFF, 0x7C01], [0x7FFF, 0xFFFF, 0x7C01]), ([0x7C01, 0xFFFF, 0x7FFF], [0x7C01, 0xFFFF, 0x7FFF]),
        )
        for words, ordered in told:
            with self.subTest(words=words):
                self.assertEqual(in_order(HALF, words), ordered)

    def test_lists_of_all_words(self):
        for width in WIDTHS:
            words = words_to_try(width)
            for mixed in (words, words[::-1], words[::2] + words[1::2] + words[::3], sorted(words, key=lambda word: word * 7 % 11)):
                self.check_order(width, (mixed * 2)[:300])

    def check_order(self, width, words):
        kept = list(words)
        ordered = in_order(width, words)
        self.assertEqual(words, kept)
        self.assertEqual([type(word) for word in ordered], [int] * len(words))
        nones = [word for word in words if is_none(width, word)]
        others = ordered[:len(words) - len(nones)]
        self.assertEqual(ordered[len(others):], nones)
        self.assertEqual(sorted(ordered), sorted(words))
        places = [(sorting_value(width, word), 0 if word >= sign_of(width) else 1) for word in others]
        self.assertEqual(places, sorted(places))

    def test_the_list_is_new_and_the_askers_own(self):
        words = [0x3C00, 0x4000]
        ordered = in_order(HALF, words)
        self.assertIsNot(ordered, words)
        self.assertIs(type(ordered), list)
        ordered.append(5)
        self.assertEqual(words, [0x3C00, 0x4000])
        self.assertEqual(in_order(HALF, words), [0x3C00, 0x4000])
        empty = []
        self.assertIsNot(in_order(HALF, empty), empty)
        self.assertIsNot(in_order(HALF, empty), in_order(HALF, empty))
        nones = [0x7E00, 0x7C01]
        self.assertIsNot(in_order(HALF, nones), nones)

    def test_what_is_no_word_is_refused_and_the_list_is_as_before(self):
        for width in (LEAST, HALF, MOST):
            for wrong in not_words(width):
                for words in ([wrong], [1, wrong], [wrong, 1], [1, 0, wrong, 2], [endless_in(width) + 1, wrong]):
                    kept = list(words)
                    self.assert_refused("NoWord", in_order, width, words)
                    self.assertTrue(all(one is other for one, other in zip(words, kept)))


class NoWidths(PromiseTest):
    def test_what_is_no_width_is_refused(self):
        for wrong in NOT_WIDTHS:
            for function in (rank_of, word_at, after, ahead):
                self.assert_refused("NoWidth", function, wrong, 0)
            self.assert_refused("NoWidth", compared, wrong, 0, 0)
            self.assert_refused("NoWidth", in_order, wrong, [])
            self.assert_refused("NoWidth", in_order, wrong, [0])


if __name__ == "__main__":
    unittest.main()

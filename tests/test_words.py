"""[6] to [9] Words: cut and joined, of six kinds, signs, and bits as a text."""

import unittest

from floatforge.widths import width_of
from floatforge.words import bits_of, cut, joined, kind_of, none_of, signed, turned, unsigned, word_of
from tests.helpers import (
    NOT_WHOLE, WIDTHS, PromiseTest, kind_by_parts, not_words, parts_by_division, shown, words_to_try,
)

HALF = width_of(5, 10)
SINGLE = width_of(8, 23)
DOUBLE = width_of(11, 52)
LEAST = width_of(2, 1)
MOST = width_of(11, 60)


class CutAndJoined(PromiseTest):
    def test_known_words(self):
        self.assertEqual(cut(HALF, 0x3C00), (0, 15, 0))
        self.assertEqual(cut(HALF, 0xC001), (1, 16, 1))
        self.assertEqual(cut(SINGLE, 0xC0490FDB), (1, 128, 0x490FDB))
        self.assertEqual(cut(DOUBLE, 0x400921FB54442D18), (0, 1024, 0x921FB54442D18))
        self.assertEqual(cut(LEAST, 0b1101), (1, 2, 1))
        self.assertEqual(cut(MOST, 2 ** 71 + 5 * 2 ** 60 + 7), (1, 5, 7))

    def test_the_first_and_the_last_word(self):
        for width in WIDTHS:
            e, f = width
            self.assertEqual(cut(width, 0), (0, 0, 0))
            self.assertEqual(cut(width, 2 ** (1 + e + f) - 1), (1, 2 ** e - 1, 2 ** f - 1))
            self.assertEqual(joined(width, 0, 0, 0), 0)
            self.assertEqual(joined(width, 1, 2 ** e - 1, 2 ** f - 1), 2 ** (1 + e + f) - 1)

    def test_cut_and_joined_again(self):
        for width in WIDTHS:
            for word in words_to_try(width):
                parts = cut(width, word)
                self.assert_tuple_of_wholes(parts, 3)
                self.assertEqual(parts, parts_by_division(width, word))
                again = joined(width, *parts)
                self.assert_whole(again)
                self.assertEqual(again, word)

    def test_parts_out_of_range_are_refused(self):
        for width in WIDTHS:
            e, f = width
            for sign in (-1, 2, 3, 10 ** 1999):
                self.assert_refused("NoWord", joined, width, sign, 0, 0)
            for exponent in (-1, 2 ** e, 2 ** e + 1, -2 ** e, 10 ** 1999):
                self.assert_refused("NoWord", joined, width, 0, exponent, 0)
            for fraction in (-1, 2 ** f, 2 ** f + 1, -2 ** f, 10 ** 1999):
                self.assert_refused("NoWord", joined, width, 0, 0, fraction)

    def test_parts_that_are_no_whole_numbers_are_refused(self):
        for width in (LEAST, HALF, MOST):
            for wrong in NOT_WHOLE:
                self.assert_refused("NoWord", joined, width, wrong, 0, 0)
                self.assert_refused("NoWord", joined, width, 0, wrong, 0)
                self.assert_refused("NoWord", joined, width, 0, 0, wrong)


class NoWords(PromiseTest):
    def test_what_is_no_word_is_refused_by_each_function(self):
        for width in WIDTHS:
            for wrong in not_words(width):
                for function in (cut, kind_of, turned, unsigned, bits_of):
                    self.assert_refused("NoWord", function, width, wrong)
                self.assert_refused("NoWord", signed, width, wrong, 0)
                self.assert_refused("NoWord", signed, width, 0, wrong)
                self.assert_refused("NoWord", signed, width, wrong, wrong)

    def test_a_word_of_a_wider_width_is_none_of_a_narrower_one(self):
        self.assert_refused("NoWord", cut, LEAST, 0x3C00)
        self.assert_refused("NoWord", cut, HALF, 0x3F800000)
        self.assert_refused("NoWord", cut, SINGLE, 0x400921FB54442D18)


class Kinds(PromiseTest):
    def test_all_words_of_the_narrowest_width(self):
        kinds = ["nought", "small", "plain", "plain", "plain", "plain", "endless", "still"]
        self.assertEqual([kind_of(LEAST, word) for word in range(16)], kinds + kinds)

    def test_all_words_of_a_width_with_loud_ones(self):
        kinds = ["nought"] + ["small"] * 3 + ["plain"] * 8 + ["endless", "loud", "still", "still"]
        self.assertEqual([kind_of((2, 2), word) for word in range(32)], kinds + kinds)

    def test_edges_of_a_common_width(self):
        told = {
            0x0000: "nought", 0x8000: "nought", 0x0001: "small", 0x03FF: "small", 0x8001: "small", 0x83FF: "small",
            0x0400: "plain", 0x3C00: "plain", 0x7BFF: "plain", 0x8400: "plain", 0xFBFF: "plain",
            0x7C00: "endless", 0xFC00: "endless", 0x7C01: "loud", 0x7DFF: "loud", 0xFC01: "loud", 0xFDFF: "loud",
            0x7E00: "still", 0x7E01: "still", 0x7FFF: "still", 0xFE00: "still", 0xFFFF: "still",
        }
        for word, kind in told.items():
            with self.subTest(word=word):
                self.assertEqual(kind_of(HALF, word), kind)

    def test_the_widest_width(self):
        top = 2047 * 2 ** 60
        told = {
            0: "nought", 1: "small", 2 ** 60 - 1: "small", 2 ** 60: "plain", top - 1: "plain", top: "endless",
            top + 1: "loud", top + 2 ** 59 - 1: "loud", top + 2 ** 59: "still", top + 2 ** 60 - 1: "still",
        }
        for word, kind in told.items():
            for sign in (0, 2 ** 71):
                with self.subTest(word=word, sign=sign):
                    self.assertEqual(kind_of(MOST, word + sign), kind)

    def test_all_widths(self):
        for width in WIDTHS:
            for word in words_to_try(width):
                with self.subTest(width=width, word=word):
                    self.assertEqual(kind_of(width, word), kind_by_parts(width, word))

    def test_the_none_of_a_width(self):
        self.assertEqual(none_of(LEAST), 0b0111)
        self.assertEqual(none_of((2, 2)), 0b01110)
        self.assertEqual(none_of(HALF), 0x7E00)
        self.assertEqual(none_of(SINGLE), 0x7FC00000)
        self.assertEqual(none_of(DOUBLE), 0x7FF8000000000000)
        self.assertEqual(none_of(MOST), 2047 * 2 ** 60 + 2 ** 59)

    def test_the_none_is_still(self):
        for width in WIDTHS:
            self.assert_whole(none_of(width))
            self.assertEqual(kind_of(width, none_of(width)), "still")
            self.assertEqual(cut(width, none_of(width)), (0, 2 ** width[0] - 1, 2 ** (width[1] - 1)))


class Signs(PromiseTest):
    def test_known_words(self):
        self.assertEqual(turned(HALF, 0x3C00), 0xBC00)
        self.assertEqual(turned(HALF, 0xBC00), 0x3C00)
        self.assertEqual(unsigned(HALF, 0xBC00), 0x3C00)
        self.assertEqual(unsigned(HALF, 0x3C00), 0x3C00)
        self.assertEqual(signed(HALF, 0x3C00, 0x8000), 0xBC00)
        self.assertEqual(signed(HALF, 0xBC00, 0x0001), 0x3C00)
        self.assertEqual(signed(HALF, 0xBC00, 0xFFFF), 0xBC00)
        self.assertEqual(signed(HALF, 0x3C00, 0x7FFF), 0x3C00)

    def test_noughts_endless_and_nones(self):
        self.assertEqual(turned(HALF, 0x0000), 0x8000)
        self.assertEqual(turned(HALF, 0x8000), 0x0000)
        self.assertEqual(turned(HALF, 0x7C00), 0xFC00)
        self.assertEqual(turned(HALF, 0xFC01), 0x7C01)
        self.assertEqual(turned(HALF, 0x7FFF), 0xFFFF)
        self.assertEqual(unsigned(HALF, 0xFC01), 0x7C01)
        self.assertEqual(signed(HALF, 0x7E05, 0xFC00), 0xFE05)

    def test_only_the_signs_bit_is_another(self):
        for width in WIDTHS:
            for word in words_to_try(width):
                sign, exponent, fraction = cut(width, word)
                with self.subTest(width=width, word=word):
                    self.assertEqual(cut(width, turned(width, word)), (1 - sign, exponent, fraction))
                    self.assertEqual(turned(width, turned(width, word)), word)
                    self.assertEqual(cut(width, unsigned(width, word)), (0, exponent, fraction))
                    self.assert_whole(turned(width, word))
                    self.assert_whole(unsigned(width, word))

    def test_signed_like_each_kind_of_word(self):
        for width in ((2, 2), (11, 60)):
            words = words_to_try(width)
            for word in words:
                for other in words:
                    parts = cut(width, signed(width, word, other))
                    self.assertEqual(parts, (cut(width, other)[0],) + cut(width, word)[1:])


class Bits(PromiseTest):
    def test_known_words(self):
        told = (
            (LEAST, 0b0000, "0 00 0"), (LEAST, 0b1111, "1 11 1"), (LEAST, 0b0110, "0 11 0"), (LEAST, 0b1001, "1 00 1"),
            (HALF, 0x3C00, "0 01111 0000000000"), (HALF, 0xC001, "1 10000 0000000001"),
            (SINGLE, 0x40490FDB, "0 10000000 10010010000111111011011"),
            (MOST, 0, "0 " + "0" * 11 + " " + "0" * 60), (MOST, 2 ** 72 - 1, "1 " + "1" * 11 + " " + "1" * 60),
            (MOST, 2 ** 70 + 1, "0 1" + "0" * 10 + " " + "0" * 59 + "1"),
        )
        for width, word, text in told:
            with self.subTest(width=width, text=text):
                self.assertEqual(bits_of(width, word), text)
                self.assertEqual(word_of(width, text), word)

    def test_told_and_read_again(self):
        for width in WIDTHS:
            e, f = width
            for word in words_to_try(width):
                text = bits_of(width, word)
                self.assertIs(type(text), str)
                signs = bin(word)[2:].zfill(1 + e + f)
                self.assertEqual(text, signs[0] + " " + signs[1:1 + e] + " " + signs[1 + e:])
                self.assert_whole(word_of(width, text))
                self.assertEqual(word_of(width, text), word)

    def test_just_the_told_texts_are_read(self):
        # Each text of these signs up to the length of a told one and one more.
        told = {bits_of(LEAST, word): word for word in range(16)}
        texts = [""]
        for length in range(7):
            texts = [text + sign for text in texts for sign in "01 "]
            for text in texts:
                if text in told:
                    self.assertEqual(word_of(LEAST, text), told[text])
                else:
                    self.assert_refused("NoText", word_of, LEAST, text)

    def test_one_sign_more_less_or_another_is_refused(self):
        for width, word in ((LEAST, 0b1010), (HALF, 0x3C01), (MOST, 2 ** 70 + 1)):
            text = bits_of(width, word)
            for place in range(len(text) + 1):
                self.assert_refused("NoText", word_of, width, text[:place] + " " + text[place:])
                self.assert_refused("NoText", word_of, width, text[:place] + "0" + text[place:])
                self.assert_refused("NoText", word_of, width, text[:place] + "1" + text[place:])
            for place in range(len(text)):
                self.assert_refused("NoText", word_of, width, text[:place] + text[place + 1:])
                for sign in "2a_-+.~\n\t\u0661\uff11\u00a0":
                    self.assert_refused("NoText", word_of, width, text[:place] + sign + text[place + 1:])

    def test_blanks_at_other_places_are_refused(self):
        wrong = (
            "0  0011110000000000", "00 1111 0000000000", "0 011110 000000000", "0 0111 10000000000", " 001111 0000000000",
            "001111 0000000000 ", "0011110000000000", "0 011110000000000", "001111 0000000000", "0 01111  000000000",
            " 0 01111 0000000000", "0 01111 0000000000 ", "0 01111 0000000000\n", "", " ", "  ", "0", "0 01111",
            "0-01111-0000000000", "0\t01111\t0000000000", "0 01111 0000000000 0", "-0 01111 000000000", "0 01111 00_0000000",
            "0b 1111 0000000000", "none", "1.5",
        )
        for text in wrong:
            self.assert_refused("NoText", word_of, HALF, text)

    def test_a_text_of_another_width_is_refused(self):
        for width in WIDTHS:
            for other in WIDTHS:
                if width != other:
                    self.assert_refused("NoText", word_of, width, bits_of(other, 1))

    def test_what_is_no_text_is_refused(self):
        wrong = (None, True, False, 0, 1, 0x3C00, -1, 10 ** 1999, [], ["0", "00", "0"], ["0 00 0"], (), ("0", "00", "0"),
                 ("0 00 0",), {}, {"0 00 0": 1}, b"0 00 0", 0.0, object())
        for width in (LEAST, HALF, MOST):
            for value in wrong:
                self.assert_refused("NoText", word_of, width, value)


class NothingIsChanged(PromiseTest):
    def test_asked_twice_the_answer_is_the_same(self):
        for width in WIDTHS:
            kept = tuple(width)
            for word in words_to_try(width):
                for function in (cut, kind_of, turned, unsigned, bits_of):
                    with self.subTest(function=function.__name__, word=shown(word)):
                        self.assertEqual(function(width, word), function(width, word))
            self.assertEqual(width, kept)


if __name__ == "__main__":
    unittest.main()

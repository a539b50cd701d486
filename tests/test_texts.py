"""[40] to [42] Texts read to words, exact texts and shortest texts; of [4] what speaks of read and of shortest texts."""

import functools
import struct
import unittest
from decimal import Decimal
from fractions import Fraction

from floatforge.texts import exact_text, read, shortest
from floatforge.widths import width_of
from tests.helpers import (
    NARROW, NOT_NUMBER_TEXTS, NOT_TEXTS, NOT_WAYS, NOT_WIDTHS, WAYS, WIDTHS, PromiseTest, endless_in, is_none, is_number,
    none_in, not_words, numbers_of, sign_of, taken_by_promise, value_by_promise, words_to_try,
)

HALF = width_of(5, 10)
SINGLE = width_of(8, 23)
DOUBLE = width_of(11, 52)
LEAST = width_of(2, 1)
MOST = width_of(11, 60)


def written(number):
    """A Fraction that has an end in figures, as a text with a point."""
    places = 0
    while number.denominator > 1:
        number, places = number * 10, places + 1
    figures = str(abs(number.numerator)).zfill(places + 1)
    sign = "-" if number < 0 else ""
    return sign + (figures[:len(figures) - places] + "." + figures[len(figures) - places:] if places else figures)


def double_of(word):
    return struct.unpack("<d", struct.pack("<Q", word))[0]


def doubles():
    words = [place * 0x1234567890ABCDEF % 0x7FF0000000000000 for place in range(1, 400)]
    words += [exponent * 2 ** 52 for exponent in range(1, 2047, 5)] + list(range(1, 60)) + [0x7FEFFFFFFFFFFFFF]
    return words + [word + 2 ** 63 for word in words[::7]]


def figures_of(text):
    """How many figures a shortest text has ahead of its e."""
    return len(text.partition("e")[0].replace("-", "").replace(".", ""))


class Read(PromiseTest):
    def each_way(self, width, text, *answers):
        for way, answer in zip(WAYS, answers if len(answers) > 1 else answers * 5):
            self.assert_answer(read(width, text, way), answer, width, text, way)

    def test_values_of_words(self):
        for text, word in (("1", 0x3C00), ("-1.5", 0xBE00), ("0.5", 0x3800), ("65504", 0x7BFF), ("2e0", 0x4000), ("20e-1", 0x4000),
                           ("0.2e1", 0x4000), ("0002.000", 0x4000), ("-6.5504e4", 0xFBFF), ("0.000000059604644775390625", 0x0001)):
            self.each_way(HALF, text, (word, 0))

    def test_names(self):
        for width in WIDTHS:
            self.each_way(width, "none", (none_in(width), 0))
            self.each_way(width, "endless", (endless_in(width), 0))
            self.each_way(width, "-endless", (endless_in(width) + sign_of(width), 0))

    def test_noughts(self):
        for width in WIDTHS:
            for text in ("0", "0.0", "000", "0e5", "0e-999", "0.000e999", "0" * 1200):
                self.each_way(width, text, (0, 0))
            for text in ("-0", "-0.0", "-000", "-0e5", "-0e-999", "-" + "0" * 1199):
                self.each_way(width, text, (sign_of(width), 0))

    def test_between_words(self):
        self.each_way(HALF, "0.1", (0x2E66, 16), (0x2E66, 16), (0x2E66, 16), (0x2E67, 16), (0x2E66, 16))
        self.each_way(HALF, "-0.1", (0xAE66, 16), (0xAE66, 16), (0xAE66, 16), (0xAE66, 16), (0xAE67, 16))
        self.each_way(HALF, "2049", (0x6800, 16), (0x6801, 16), (0x6800, 16), (0x6801, 16), (0x6800, 16))
        self.each_way(HALF, "2049." + "0" * 1190 + "1", (0x6801, 16), (0x6801, 16), (0x6800, 16), (0x6801, 16), (0x6800, 16))
        self.each_way(HALF, "2048." + "9" * 1190, (0x6800, 16), (0x6800, 16), (0x6800, 16), (0x6801, 16), (0x6800, 16))

    def test_beyond_the_greatest(self):
        self.each_way(HALF, "65519", (0x7BFF, 16), (0x7BFF, 16), (0x7BFF, 16), (0x7C00, 20), (0x7BFF, 16))
        self.each_way(HALF, "65520", (0x7C00, 20), (0x7C00, 20), (0x7BFF, 16), (0x7C00, 20), (0x7BFF, 16))
        self.each_way(HALF, "1e999", (0x7C00, 20), (0x7C00, 20), (0x7BFF, 20), (0x7C00, 20), (0x7BFF, 20))
        self.each_way(HALF, "-" + "9" * 1195 + "e999", (0xFC00, 20), (0xFC00, 20), (0xFBFF, 20), (0xFBFF, 20), (0xFC00, 20))

    def test_below_the_least(self):
        self.each_way(HALF, "1e-999", (0, 24), (0, 24), (0, 24), (1, 24), (0, 24))
        self.each_way(HALF, "-1e-999", (0x8000, 24), (0x8000, 24), (0x8000, 24), (0x8000, 24), (0x8001, 24))
        self.each_way(HALF, "0.0000000298023223876953125", (0, 24), (1, 24), (0, 24), (1, 24), (0, 24))
        self.each_way(HALF, "0." + "0" * 1190 + "1e-999", (0, 24), (0, 24), (0, 24), (1, 24), (0, 24))

    def test_just_amid_two_words_and_beside(self):
        for width in WIDTHS:
            words = numbers_of(width)
            for word in words[::1 if width in NARROW[:5] else 5]:
                if (word + 1) % sign_of(width) < endless_in(width):
                    self.check_between(width, value_by_promise(width, word), value_by_promise(width, word + 1))

    def check_between(self, width, one, other):
        for number in (one, (one + other) / 2, other):
            text = written(number)
            if number != 0 and len(text) <= 1190:
                self.check_held(width, text)
                self.check_held(width, (text if "." in text else text + ".") + "0001")
                self.check_held(width, written(number - (number / abs(number)) * Fraction(1, 10 ** (len(text) + 3))))

    def check_held(self, width, text):
        # Read by Fraction, that takes more texts than the program does, but these alike.
        for way in WAYS:
            expected = taken_by_promise(width, Fraction(text), way)
            if Fraction(text) != 0:
                self.assert_answer(read(width, text, way), expected, width, text, way)

    def test_all_sorts_of_texts(self):
        texts = ["3.14159265358979323846", "-2.718281828459045", "1e-5", "9.999e4", "123456789", "7e22", "4.9e-324", "1.8e308",
                 "-1e-310", "5e-45", "1e-40", "3.4e38", "3.5e38", "0.3", "12e-1", "1" * 1200, "0." + "3" * 1198, "1e308", "2e-308"]
        for width in WIDTHS:
            for text in texts:
                self.check_held(width, text)
                self.assertEqual(read(width, text), read(width, text, "even"))

    def test_as_other_programs_read(self):
        for place in range(1, 700):
            text = f"{place * 7919 % 99991}.{place * 104729 % 1299709}e{place * 37 % 640 - 330}"
            value = float(text)
            self.assertEqual(read(DOUBLE, text)[0], struct.unpack("<Q", struct.pack("<d", value))[0])

    def test_what_writes_nothing(self):
        for width in (LEAST, HALF, MOST):
            for wrong in NOT_NUMBER_TEXTS + NOT_TEXTS + ("1" * 1201, "0" * 1201):
                self.assert_refused("NoText", read, width, wrong)
                self.assert_refused("NoText", read, width, wrong, "down")
                self.assert_refused("NoText", read, width, wrong, "no way")
                self.assert_refused("NoText", read, width, wrong, None)

    def test_what_is_no_way_needed_or_not(self):
        for wrong in NOT_WAYS:
            for text in ("0", "-0", "1", "0.1", "1e999", "none", "endless", "-endless"):
                self.assert_refused("NoWay", read, HALF, text, wrong)

    def test_what_is_no_width(self):
        for wrong in NOT_WIDTHS:
            for text in ("0", "1", "none", "endless"):
                self.assert_refused("NoWidth", read, wrong, text)
            self.assert_refused("NoWidth", exact_text, wrong, 0)
            self.assert_refused("NoWidth", shortest, wrong, 0)


class Exact(PromiseTest):
    def test_known_words(self):
        told = {
            0x0000: "0", 0x8000: "-0", 0x3C00: "1", 0xBC00: "-1", 0x3800: "0.5", 0xC100: "-2.5", 0x7BFF: "65504", 0xFBFF: "-65504",
            0x0001: "0.000000059604644775390625", 0x8400: "-0.00006103515625", 0x2E66: "0.0999755859375", 0x4900: "10",
            0x5640: "100", 0x7C00: "endless", 0xFC00: "-endless", 0x7E00: "none", 0xFE00: "none", 0x7C01: "none", 0xFFFF: "none",
        }
        for word, text in told.items():
            with self.subTest(word=hex(word)):
                self.assertEqual(exact_text(HALF, word), text)

    def test_all_words_of_the_narrowest_width(self):
        texts = ["0", "0.5", "1", "1.5", "2", "3", "endless", "none"]
        self.assertEqual([exact_text(LEAST, word) for word in range(16)], texts + ["-" + text for text in texts[:7]] + ["none"])

    def test_the_ends_of_the_widest_width(self):
        self.assertEqual(exact_text(MOST, 1), written(Fraction(1, 2 ** 1082)))
        self.assertEqual(len(exact_text(MOST, 1)), 1084)
        self.assertEqual(exact_text(MOST, endless_in(MOST) - 1), str((2 ** 61 - 1) * 2 ** 963))

    def test_all_widths(self):
        for width in WIDTHS:
            for word in words_to_try(width):
                text = exact_text(width, word)
                self.assertIs(type(text), str)
                if is_number(width, word):
                    expected = written(value_by_promise(width, word))
                    self.assertEqual(text, "-0" if word == sign_of(width) else expected)
                    self.assertRegex(text, r"\A-?(0|[1-9][0-9]*)(\.[0-9]*[1-9])?\Z")

    def test_it_reads_back_without_marks_by_each_way(self):
        for width in WIDTHS:
            for word in words_to_try(width):
                for way in WAYS:
                    expected = none_in(width) if is_none(width, word) else word
                    self.assert_answer(read(width, exact_text(width, word), way), (expected, 0), width, word, way)

    def test_as_other_programs_tell_it(self):
        for word in doubles():
            self.assertEqual(exact_text(DOUBLE, word), format(Decimal(double_of(word)), "f"))

    def test_what_is_no_word(self):
        for width in WIDTHS:
            for wrong in not_words(width):
                self.assert_refused("NoWord", exact_text, width, wrong)
                self.assert_refused("NoWord", shortest, width, wrong)


class Shortest(PromiseTest):
    def test_known_words(self):
        told = {
            0x0000: "0", 0x8000: "-0", 0x3C00: "1e0", 0xB400: "-2.5e-1", 0x2E66: "1e-1", 0x7BFF: "6.55e4", 0xFBFF: "-6.55e4",
            0x0001: "6e-8", 0x8001: "-6e-8", 0x0002: "1e-7", 0x0400: "6.104e-5", 0x3555: "3.333e-1", 0x4900: "1e1", 0x4248: "3.14e0",
            0x7C00: "endless", 0xFC00: "-endless", 0x7E00: "none", 0xFE00: "none", 0x7C01: "none", 0xFFFF: "none", 0x5640: "1e2",
        }
        for word, text in told.items():
            with self.subTest(word=hex(word)):
                self.assertEqual(shortest(HALF, word), text)

    def test_all_words_of_the_narrowest_width(self):
        texts = ["0", "5e-1", "1e0", "1.5e0", "2e0", "3e0", "endless", "none"]
        self.assertEqual([shortest(LEAST, word) for word in range(16)], texts + ["-" + text for text in texts[:7]] + ["none"])

    def test_numbers_of_many_figures(self):
        self.assertEqual(shortest(DOUBLE, 0x44DFE185CA57C517), "6.02214076e23")
        self.assertEqual(shortest(DOUBLE, 0x3FB999999999999A), "1e-1")
        self.assertEqual(shortest(DOUBLE, 0x3FD3333333333334), "3.0000000000000004e-1")
        self.assertEqual(shortest(DOUBLE, 1), "5e-324")
        self.assertEqual(shortest(DOUBLE, 0x7FEFFFFFFFFFFFFF), "1.7976931348623157e308")
        self.assertEqual(shortest(SINGLE, 0x3DCCCCCD), "1e-1")

    def test_a_first_figure_that_grows_to_ten(self):
        # 96 with one figure lies between 90 and 100, both of which are read to it.
        self.assertEqual(exact_text((6, 1), 75), "96")
        self.assertEqual([read((6, 1), text)[0] for text in ("9e1", "1e2")], [75, 75])
        self.assertEqual(shortest((6, 1), 75), "1e2")
        self.assertEqual(shortest((6, 1), 128 + 75), "-1e2")

    def test_the_nearer_one_may_be_read_to_another_word(self):
        # 10 lies just amid 8 and 12 and is read to 8, 20 to 16: so no single figure is read to 12.
        self.assertEqual([read((6, 1), text)[0] for text in ("10", "12", "20")], [68, 69, 70])
        self.assertEqual(shortest((6, 1), 69), "1.2e1")
        # Steps are greater above 256 than below it: only the one above is read to it.
        self.assertEqual([read((6, 1), text)[0] for text in ("200", "256", "300")], [77, 78, 78])
        self.assertEqual(shortest((6, 1), 78), "3e2")

    def test_of_two_equally_near_ones_the_lesser_in_size(self):
        self.assertEqual(exact_text((6, 1), 61), "0.75")
        self.assertEqual([read((6, 1), text)[0] for text in ("0.7", "0.8")], [61, 61])
        self.assertEqual(shortest((6, 1), 61), "7e-1")
        self.assertEqual(shortest((6, 1), 128 + 61), "-7e-1")
        word = 0x431410B6F15158AB
        self.assertEqual(exact_text(DOUBLE, word), "1411969363236394.75")
        self.assertEqual(shortest(DOUBLE, word), "1.4119693632363947e15")
        self.assertEqual(shortest(DOUBLE, word + 2 ** 63), "-1.4119693632363947e15")
        self.assertEqual(read(DOUBLE, "1.4119693632363948e15")[0], word)

    def test_each_word_of_narrow_widths_against_all_texts(self):
        for width in NARROW:
            best = self.best_texts(width)
            for word in numbers_of(width):
                if word % sign_of(width) != 0:
                    size, text = word % sign_of(width), shortest(width, word)
                    self.assertEqual(text.startswith("-"), word >= sign_of(width))
                    self.assertEqual(Fraction(text.replace("-", "", text.startswith("-"))), best[size][2], (width, word))
                    self.assertEqual(figures_of(text), best[size][0])

    def best_texts(self, width):
        """Of each word the number of fewest figures, nearest and least, sought among all of up to three figures."""
        best = {}
        for figures in (1, 2, 3):
            for whole in range(10 ** (figures - 1), 10 ** figures):
                if whole % 10 != 0:
                    for ten in range(-9, 7):
                        number = whole * Fraction(10) ** ten
                        word = self.even_word(width, number)
                        found = (figures, abs(number - self.value(width, word)), number)
                        best[word] = min(best.get(word, found), found)
        return best

    @functools.lru_cache(maxsize=None)
    def value(self, width, word):
        return value_by_promise(width, word) if word < endless_in(width) else Fraction(0)

    def even_word(self, width, number):
        # Most of the numbers lie far beyond a narrow width's, where no search is needed.
        if number >= 2 * self.value(width, endless_in(width) - 1):
            return endless_in(width)
        return taken_by_promise(width, number, "even")[0]

    def test_all_widths(self):
        for width in WIDTHS:
            for word in words_to_try(width):
                text = shortest(width, word)
                self.assertIs(type(text), str)
                if is_number(width, word) and word % sign_of(width) != 0:
                    self.assertRegex(text, r"\A-?[1-9](\.[0-9]*[1-9])?e(0|-?[1-9][0-9]*)\Z")
                if not is_none(width, word):
                    self.assertEqual(read(width, text)[0], word)
                    self.check_none_shorter(width, word, text)

    def check_none_shorter(self, width, word, text):
        # The numbers next to the value with one figure less are read to other words.
        if "." in text:
            value = abs(value_by_promise(width, word))
            ten = int(text.partition("e")[2]) - (figures_of(text) - 2)
            unit = Fraction(10) ** ten
            lower = value // unit
            for whole in (lower, lower + 1):
                self.assertNotEqual(taken_by_promise(width, whole * unit, "even")[0], word % sign_of(width))

    def test_as_other_programs_tell_it(self):
        for word in doubles():
            value = double_of(word)
            ours, theirs = Fraction(shortest(DOUBLE, word)), Fraction(repr(value))
            # Of two equally near ones others may tell the greater.
            self.assertEqual(abs(ours - Fraction(value)), abs(theirs - Fraction(value)))
            self.assertLessEqual(abs(ours), abs(theirs))


if __name__ == "__main__":
    unittest.main()

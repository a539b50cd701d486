"""[10] to [12] Exact numbers: made, added, multiplied, put in order, read of words and fitted to words."""

import struct
import unittest
from fractions import Fraction

from floatforge.exacts import added, exact, fitting, is_below, multiplied, value_of
from floatforge.widths import width_of
from floatforge.words import cut
from tests.helpers import (
    NARROW, WIDTHS, PromiseTest, fraction_of, kind_by_parts, not_words, numbers_of, shown, value_by_promise, words_to_try,
)

HALF = width_of(5, 10)
SINGLE = width_of(8, 23)
DOUBLE = width_of(11, 52)
LEAST = width_of(2, 1)
MOST = width_of(11, 60)

# Two thousand figures, the greatest that is promised.
GREAT = 10 ** 2000 - 1
SHIFTED = 2 ** 6643

SMALL_NUMBERS = [exact(n, k) for n in range(-9, 10) for k in range(-4, 5)]
GREAT_NUMBERS = [exact(n, k) for n in (GREAT, -GREAT, SHIFTED, -SHIFTED, GREAT - 1, 1, -1, 0, 3, -3)
                 for k in (-9000, -8999, 0, 1, 8999, 9000)]


class Made(PromiseTest):
    def test_known_numbers(self):
        told = (
            ((1, 0), (1, 0)), ((2, 0), (1, 1)), ((12, 0), (3, 2)), ((12, -2), (3, 0)), ((3, 5), (3, 5)),
            ((-1, 0), (-1, 0)), ((-2, 0), (-1, 1)), ((-12, 7), (-3, 9)), ((40, -3), (5, 0)), ((-40, -9), (-5, -6)),
        )
        for args, number in told:
            with self.subTest(args=args):
                self.assertEqual(exact(*args), number)

    def test_nought_has_one_form(self):
        for k in (-9000, -1, 0, 1, 5, 9000):
            self.assertEqual(exact(0, k), (0, 0))

    def test_small_ones(self):
        for n in range(-70, 71):
            for k in range(-8, 9):
                self.check_made(n, k)

    def test_great_ones(self):
        for n in (GREAT, GREAT - 1, SHIFTED, SHIFTED * 3 // 2, 10 ** 1999, 5 ** 2000 * 2 ** 1999):
            for k in (-9000, -8999, -1, 0, 1, 8999, 9000):
                self.check_made(n, k)
                self.check_made(-n, k)

    def check_made(self, n, k):
        number = exact(n, k)
        self.assert_tuple_of_wholes(number, 2)
        self.assertTrue(number == (0, 0) or number[0] % 2 == 1, shown(number))
        self.assertEqual(fraction_of(number), fraction_of((n, k)))

    def test_the_power_may_leave_the_range_that_is_handed_in(self):
        self.assertEqual(exact(SHIFTED, 9000), (1, 15643))
        self.assertEqual(exact(-SHIFTED, -9000), (-1, -2357))


class AddedAndMultiplied(PromiseTest):
    def test_known_sums(self):
        self.assertEqual(added((1, 0), (1, 0)), (1, 1))
        self.assertEqual(added((1, 0), (1, -1)), (3, -1))
        self.assertEqual(added((3, 2), (-3, 2)), (0, 0))
        self.assertEqual(added((3, 2), (0, 0)), (3, 2))
        self.assertEqual(added((0, 0), (-3, -2)), (-3, -2))
        self.assertEqual(added((0, 0), (0, 0)), (0, 0))
        self.assertEqual(added((1, 3), (-1, 0)), (7, 0))
        self.assertEqual(added((-5, -3), (-3, -3)), (-1, 0))

    def test_known_products(self):
        self.assertEqual(multiplied((3, 2), (5, -7)), (15, -5))
        self.assertEqual(multiplied((-3, 2), (5, 1)), (-15, 3))
        self.assertEqual(multiplied((-3, -2), (-5, -1)), (15, -3))
        self.assertEqual(multiplied((0, 0), (5, 9)), (0, 0))
        self.assertEqual(multiplied((-7, 4), (0, 0)), (0, 0))
        self.assertEqual(multiplied((0, 0), (0, 0)), (0, 0))

    def test_small_numbers(self):
        self.check_pairs(SMALL_NUMBERS[::2], SMALL_NUMBERS)

    def test_great_numbers(self):
        self.check_pairs(GREAT_NUMBERS, GREAT_NUMBERS[::3])

    def check_pairs(self, ones, others):
        for one in ones:
            for other in others:
                self.check_one_form(added(one, other), fraction_of(one) + fraction_of(other))
                self.check_one_form(multiplied(one, other), fraction_of(one) * fraction_of(other))

    def check_one_form(self, number, value):
        self.assert_tuple_of_wholes(number, 2)
        self.assertTrue(number == (0, 0) or number[0] % 2 == 1, shown(number))
        self.assertEqual(fraction_of(number), value)

    def test_the_same_number_has_the_same_tuple(self):
        self.assertEqual(added((1, -1), (1, -1)), exact(1, 0))
        self.assertEqual(multiplied((3, 1), (3, -1)), added((1, 3), (1, 0)))


class Below(PromiseTest):
    def test_known_numbers(self):
        rising = [(-1, 9000), (-3, 1), (-5, 0), (-1, 0), (-1, -9000), (0, 0), (1, -9000), (1, -1), (3, -1), (1, 1),
                  (5, -1), (3, 0), (1, 2), (GREAT, 0), (1, 9000)]
        for place, one in enumerate(rising):
            for other_place, other in enumerate(rising):
                with self.subTest(one=shown(one), other=shown(other)):
                    self.assertIs(is_below(one, other), place < other_place)

    def test_small_numbers(self):
        for one in SMALL_NUMBERS:
            for other in SMALL_NUMBERS[::3]:
                self.assertIs(is_below(one, other), fraction_of(one) < fraction_of(other))

    def test_great_numbers(self):
        for one in GREAT_NUMBERS:
            for other in GREAT_NUMBERS:
                self.assertIs(is_below(one, other), fraction_of(one) < fraction_of(other))

    def test_by_a_last_bit_far_off(self):
        slightly_more = added((1, 9000), (1, -9000))
        self.assertIs(is_below((1, 9000), slightly_more), True)
        self.assertIs(is_below(slightly_more, (1, 9000)), False)
        self.assertIs(is_below(slightly_more, slightly_more), False)


class Values(PromiseTest):
    def test_known_words(self):
        told = (
            (HALF, 0x0000, (0, 0)), (HALF, 0x8000, (0, 0)), (HALF, 0x0001, (1, -24)), (HALF, 0x8001, (-1, -24)),
            (HALF, 0x03FF, (1023, -24)), (HALF, 0x0400, (1, -14)), (HALF, 0x3C00, (1, 0)), (HALF, 0xC200, (-3, 0)),
            (HALF, 0x7BFF, (2047, 5)), (HALF, 0xFBFF, (-2047, 5)), (HALF, 0x0200, (1, -15)),
            (SINGLE, 0x40490FDB, (13176795, -22)), (MOST, 1, (1, -1082)), (MOST, 2 ** 71 + 1, (-1, -1082)),
            (MOST, 2 ** 60 - 1, (2 ** 60 - 1, -1082)), (MOST, 2 ** 60, (1, -1022)),
            (MOST, 2047 * 2 ** 60 - 1, (2 ** 61 - 1, 963)), (MOST, 1023 * 2 ** 60, (1, 0)),
        )
        for width, word, number in told:
            with self.subTest(width=width, word=word):
                self.assertEqual(value_of(width, word), number)

    def test_all_numbers_of_the_narrowest_width(self):
        told = [(0, 0), (1, -1), (1, 0), (3, -1), (1, 1), (3, 0)]
        self.assertEqual([value_of(LEAST, word) for word in range(6)], told)
        self.assertEqual([value_of(LEAST, word) for word in range(8, 14)], [(-n, k) for n, k in told])

    def test_all_widths(self):
        for width in WIDTHS:
            for word in numbers_of(width):
                number = value_of(width, word)
                self.assert_tuple_of_wholes(number, 2)
                self.assertTrue(number == (0, 0) or number[0] % 2 == 1)
                self.assertEqual(fraction_of(number), value_by_promise(width, word))

    def test_as_other_programs_keep_such_words(self):
        for word in list(range(0, 0x7C00, 7)) + list(range(0x8000, 0xFC00, 7)):
            self.check_kept(HALF, word, "<H", "<e")
        for word in range(0, 0x7F800000, 0x1234567):
            self.check_kept(SINGLE, word, "<I", "<f")
            self.check_kept(SINGLE, word + 2 ** 31, "<I", "<f")
        for word in range(0, 0x7FF0000000000000, 0x12345678901234):
            self.check_kept(DOUBLE, word, "<Q", "<d")
            self.check_kept(DOUBLE, word + 2 ** 63, "<Q", "<d")

    def check_kept(self, width, word, whole_form, float_form):
        kept = struct.unpack(float_form, struct.pack(whole_form, word))[0]
        self.assertEqual(fraction_of(value_of(width, word)), Fraction(kept))

    def test_endless_and_nones_have_none(self):
        for width in WIDTHS:
            others = [word for word in words_to_try(width) if cut(width, word)[1] == 2 ** width[0] - 1]
            self.assertGreaterEqual(len(others), 4)
            for word in others:
                self.assert_refused("NoNumber", value_of, width, word)
        for word in (0x7C00, 0xFC00, 0x7E00, 0x7C01, 0x7DFF, 0xFE00, 0xFC01, 0x7FFF, 0xFFFF):
            self.assert_refused("NoNumber", value_of, HALF, word)

    def test_what_is_no_word_is_refused(self):
        for width in WIDTHS:
            for wrong in not_words(width):
                self.assert_refused("NoWord", value_of, width, wrong)


class Fitting(PromiseTest):
    def test_known_numbers(self):
        told = (
            ((0, 0), 0x0000), ((1, 0), 0x3C00), ((-1, 0), 0xBC00), ((1, -24), 0x0001), ((-1, -24), 0x8001),
            ((1023, -24), 0x03FF), ((1, -14), 0x0400), ((1025, -24), 0x0401), ((2047, -24), 0x07FF), ((1, -13), 0x0800),
            ((2047, 5), 0x7BFF), ((-2047, 5), 0xFBFF), ((1, 15), 0x7800), ((3, 0), 0x4200),
        )
        for number, word in told:
            with self.subTest(number=number):
                self.assertEqual(fitting(HALF, number), word)

    def test_each_value_fits_its_word(self):
        for width in WIDTHS:
            for word in numbers_of(width):
                number = value_of(width, word)
                # Of the two noughts it is the one with sign 0.
                asked = 0 if number == (0, 0) else word
                self.assert_whole(fitting(width, number))
                self.assertEqual(fitting(width, number), asked)

    def test_by_a_bit_too_many(self):
        for width in WIDTHS:
            f = width[1]
            for n in (2 ** (f + 1) + 1, 2 ** (f + 2) - 1, 2 ** (f + 1) + 3):
                # Its lowest bit is half a last step at the height of 1.
                self.check_none(width, exact(n, -f - 1))
            self.assertIsNotNone(fitting(width, exact(2 ** (f + 1) - 1, -f)))
            self.assertIsNotNone(fitting(width, exact(1 - 2 ** (f + 1), -f)))

    def test_by_a_power_too_low(self):
        for width in WIDTHS:
            e, f = width
            least = 2 - 2 ** (e - 1) - f
            self.assertEqual(fitting(width, (1, least)), 1)
            self.assertEqual(fitting(width, (3, least)), 3)
            for number in ((1, least - 1), (3, least - 1), (1, least - 2), (2 ** f + 1, least - 1), (1, -9000)):
                self.check_none(width, number)

    def test_by_being_too_great(self):
        for width in WIDTHS:
            e, f = width
            bias = 2 ** (e - 1) - 1
            greatest = (2 ** (f + 1) - 1, bias - f)
            self.assertEqual(fitting(width, greatest), (2 ** e - 1) * 2 ** f - 1)
            self.assertEqual(fitting(width, (1, bias)), (2 ** e - 2) * 2 ** f)
            for number in ((1, bias + 1), (1, bias + 2), (3, bias), (2 ** (f + 1) - 1, bias - f + 1), (1, 9000)):
                self.check_none(width, number)
            if f > 1:
                self.check_none(width, (2 ** f - 1, bias - f + 2))

    def test_numbers_of_two_thousand_figures(self):
        for width in (LEAST, HALF, MOST):
            for k in (-9000, -6643, 0, 9000):
                self.check_none(width, exact(GREAT, k))
        self.assertEqual(fitting(HALF, exact(3 * SHIFTED, -6643)), 0x4200)
        self.assertEqual(fitting(HALF, exact(-3 * SHIFTED, -6643)), 0xC200)

    def check_none(self, width, number):
        with self.subTest(width=width, number=shown(number)):
            self.assertIsNone(fitting(width, number))
            self.assertIsNone(fitting(width, (-number[0], number[1])))

    def test_just_the_values_fit(self):
        for width in NARROW:
            e, f = width
            words = {value_of(width, word): word for word in reversed(numbers_of(width))}
            reach = 2 ** (e - 1) + f + 3
            for n in range(-2 ** (f + 2) - 1, 2 ** (f + 2) + 2):
                for k in range(-reach, reach):
                    number = exact(n, k)
                    self.assertEqual(fitting(width, number), words.get(number), (width, number))


if __name__ == "__main__":
    unittest.main()

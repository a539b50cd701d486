"""[27] and [28] Plus, minus, times, fused, total and dots; of [4] what speaks of these."""

import itertools
import struct
import unittest
from fractions import Fraction

from floatforge.exacts import fitting
from floatforge.sums import dots, fused, minus, plus, times, total
from floatforge.widths import width_of
from tests.helpers import (
    NARROW, NOT_WAYS, NOT_WIDTHS, WAYS, WIDE, WIDTHS, PromiseTest, endless_in, none_in, not_words, numbers_of,
    product_of_things, sign_of, sum_of_things, taken_by_promise, thing_of, value_by_promise, words_to_try,
)

HALF = width_of(5, 10)
DOUBLE = width_of(11, 52)
LEAST = width_of(2, 1)
MOST = width_of(11, 60)


def opposite(thing):
    kind, sign, value = thing
    return kind, 1 - sign, None if value is None else -value


def held(function, width, words, way):
    """The answer that a function has to give, reckoned with Fractions."""
    things = [thing_of(width, word) for word in words]
    if function is plus:
        return sum_of_things(width, things, way)
    if function is minus:
        return sum_of_things(width, [things[0], opposite(things[1])], way)
    if function is times:
        return sum_of_things(width, [product_of_things(*things)], way)
    return sum_of_things(width, [product_of_things(*things[:2]), things[2]], way)


def bits(value):
    return struct.unpack("<Q", struct.pack("<d", value))[0]


def value(word):
    return struct.unpack("<d", struct.pack("<Q", word))[0]


class SumTest(PromiseTest):
    def check(self, function, width, *words):
        for way in WAYS:
            expected = held(function, width, words, way)
            self.assert_answer(function(width, *words, way), expected, function, width, words, way)
            if way == "even":
                self.assert_answer(function(width, *words), expected, function, width, words)

    def each_way(self, function, args, *answers):
        for way, answer in zip(WAYS, answers if len(answers) > 1 else answers * 5):
            self.assert_answer(function(HALF, *args, way), answer, function, args, way)


class Known(SumTest):
    def test_ordinary_words(self):
        self.each_way(plus, (0x3C00, 0x4000), (0x4200, 0))
        self.each_way(minus, (0x3C00, 0x4000), (0xBC00, 0))
        self.each_way(times, (0x4200, 0xC200), (0xC880, 0))
        self.each_way(fused, (0x4200, 0x4200, 0xC880), (0, 0), (0, 0), (0, 0), (0, 0), (0x8000, 0))
        self.each_way(total, ([0x3C00, 0x4000, 0x4200],), (0x4600, 0))
        self.each_way(dots, ([0x3C00, 0x4000], [0x4200, 0xC200]), (0xC200, 0))

    def test_noughts_of_one_sign_and_of_both(self):
        mixed = [(0, 0)] * 4 + [(0x8000, 0)]
        self.each_way(plus, (0, 0), (0, 0))
        self.each_way(plus, (0x8000, 0x8000), (0x8000, 0))
        self.each_way(plus, (0, 0x8000), *mixed)
        self.each_way(plus, (0x8000, 0), *mixed)
        self.each_way(plus, (0x3C00, 0xBC00), *mixed)
        self.each_way(minus, (0, 0x8000), (0, 0))
        self.each_way(minus, (0x8000, 0), (0x8000, 0))
        self.each_way(minus, (0, 0), *mixed)
        self.each_way(minus, (0x3C01, 0x3C01), *mixed)
        self.each_way(times, (0, 0xBC00), (0x8000, 0))
        self.each_way(times, (0x8000, 0xBC00), (0, 0))
        self.each_way(times, (0x8000, 0x8000), (0, 0))
        self.each_way(fused, (0, 0x3C00, 0x8000), *mixed)
        self.each_way(fused, (0x8000, 0x3C00, 0x8000), (0x8000, 0))
        self.each_way(fused, (0x8000, 0x8000, 0), (0, 0))

    def test_endless_words(self):
        self.each_way(plus, (0x7C00, 0xFBFF), (0x7C00, 0))
        self.each_way(plus, (0x7C00, 0xFC00), (0x7E00, 1))
        self.each_way(plus, (0xFC00, 0xFC00), (0xFC00, 0))
        self.each_way(minus, (0x7C00, 0x7C00), (0x7E00, 1))
        self.each_way(minus, (0x7C00, 0xFC00), (0x7C00, 0))
        self.each_way(minus, (0x3C00, 0x7C00), (0xFC00, 0))
        self.each_way(times, (0x7C00, 0x8001), (0xFC00, 0))
        self.each_way(times, (0, 0xFC00), (0x7E00, 1))
        self.each_way(fused, (0x7C00, 0x3C00, 0xFC00), (0x7E00, 1))
        self.each_way(fused, (0x7C00, 0x0000, 0x7E00), (0x7E00, 1))
        self.each_way(fused, (0x7BFF, 0x7BFF, 0xFC00), (0xFC00, 0))
        self.each_way(total, ([0x7C00, 0x3C00, 0xFC00],), (0x7E00, 1))
        self.each_way(dots, ([0x7C00, 0xBC00], [0x3C00, 0x7C00]), (0x7E00, 1))

    def test_nones(self):
        for function in (plus, minus, times):
            for one, other in ((0x7E01, 0x3C00), (0x3C00, 0xFE00), (0xFFFF, 0x7FFF), (0x7E00, 0x7C00), (0, 0x7E00)):
                self.each_way(function, (one, other), (0x7E00, 0))
            for one, other in ((0x7C01, 0x3C00), (0x3C00, 0xFC01), (0x7C01, 0x7E00), (0x7E00, 0x7C01), (0x7C01, 0x7C01)):
                self.each_way(function, (one, other), (0x7E00, 1))
        for words in ((0x7E00, 0, 0), (0, 0xFE01, 0), (0, 0, 0x7FFF), (0x7E00, 0x7C00, 0)):
            self.each_way(fused, words, (0x7E00, 0))
        for words in ((0x7C01, 0, 0), (0, 0xFC01, 0), (0, 0, 0x7C01), (0x7E00, 0, 0x7C01)):
            self.each_way(fused, words, (0x7E00, 1))
        self.each_way(total, ([0x3C00, 0x7E00, 0xFC00, 0x7C00],), (0x7E00, 0))
        self.each_way(total, ([0x7E00, 0x7C01],), (0x7E00, 1))

    def test_no_words(self):
        for width in WIDTHS:
            for way in WAYS:
                self.assert_answer(total(width, [], way), (0, 0))
                self.assert_answer(dots(width, [], [], way), (0, 0))
            self.assert_answer(total(width, []), (0, 0))
            self.assert_answer(dots(width, [], []), (0, 0))

    def test_beyond_the_greatest(self):
        self.each_way(plus, (0x7BFF, 0x7BFF), (0x7C00, 20), (0x7C00, 20), (0x7BFF, 20), (0x7C00, 20), (0x7BFF, 20))
        self.each_way(times, (0x7BFF, 0xFBFF), (0xFC00, 20), (0xFC00, 20), (0xFBFF, 20), (0xFBFF, 20), (0xFC00, 20))
        self.each_way(plus, (0x7BFF, 0x4B80), (0x7BFF, 16), (0x7BFF, 16), (0x7BFF, 16), (0x7C00, 20), (0x7BFF, 16))
        self.each_way(plus, (0x7BFF, 0x4C00), (0x7C00, 20), (0x7C00, 20), (0x7BFF, 16), (0x7C00, 20), (0x7BFF, 16))

    def test_below_the_least(self):
        self.each_way(times, (0x0001, 0x3800), (0, 24), (1, 24), (0, 24), (1, 24), (0, 24))
        self.each_way(times, (0x8001, 0x0001), (0x8000, 24), (0x8000, 24), (0x8000, 24), (0x8000, 24), (0x8001, 24))

    def test_a_fused_sum_that_times_and_plus_tell_otherwise(self):
        # 1 and a step, squared, less what times makes of it: times and plus lose the rest.
        square = times(HALF, 0x3C01, 0x3C01)[0]
        self.assertEqual(plus(HALF, square, square + 0x8000), (0, 0))
        self.each_way(fused, (0x3C01, 0x3C01, square + 0x8000), (0x0010, 0))
        self.each_way(fused, (0x7BFF, 0x4000, 0xFBFF), (0x7BFF, 0))
        self.assertEqual(times(HALF, 0x7BFF, 0x4000), (0x7C00, 20))

    def test_a_total_that_plus_tells_otherwise(self):
        self.each_way(total, ([0x7BFF, 0x7BFF, 0xFBFF],), (0x7BFF, 0))
        self.each_way(total, ([0x6800, 0x3C00, 0x3C00],), (0x6801, 0))
        self.each_way(total, ([0x7BFF, 0x0001, 0xFBFF],), (0x0001, 0))
        self.assertEqual(plus(HALF, plus(HALF, 0x6800, 0x3C00)[0], 0x3C00)[0], 0x6800)

    def test_dots_are_gathered_once(self):
        self.each_way(dots, ([0x7BFF, 0x7BFF, 0x0001], [0x7BFF, 0xFBFF, 0x3C00]), (0x0001, 0))
        self.each_way(dots, ([0x0001, 0x0001], [0x3800, 0x3800]), (0x0001, 0))


class Held(SumTest):
    def test_all_pairs_of_narrow_widths(self):
        for width in NARROW[:5]:
            words = words_to_try(width)
            for one, other in itertools.product(words, repeat=2):
                for function in (plus, minus, times):
                    self.check(function, width, one, other)

    def test_pairs_of_other_widths(self):
        for width in WIDE:
            words = words_to_try(width)
            for one, other in itertools.product(words[::2], words[1::3]):
                for function in (plus, minus, times):
                    self.check(function, width, one, other)

    def test_fused_words(self):
        for width in NARROW[:2]:
            words = words_to_try(width)
            for one, other, third in itertools.product(words, words[::3], words):
                self.check(fused, width, one, other, third)
        for width in (HALF, MOST):
            words = words_to_try(width)
            for one, other, third in itertools.product(words[::4], words[1::4], words[::5]):
                self.check(fused, width, one, other, third)

    def test_totals_and_dots(self):
        for width in WIDTHS:
            words = words_to_try(width)
            numbers = numbers_of(width)
            lists = [words[:3], words[::5], numbers, numbers[::3] + numbers[1::2], numbers[::-1] + [0], (numbers * 20)[:300]]
            lists += [[one] for one in words[::4]] + [[one, other] for one, other in zip(words, words[5:])]
            for some in lists:
                self.check_lists(width, some[:300])

    def check_lists(self, width, words):
        others = words[::-1]
        kept = list(words), list(others)
        things = [thing_of(width, word) for word in words]
        products = [product_of_things(*pair) for pair in zip(things, things[::-1])]
        for way in WAYS:
            self.assert_answer(total(width, words, way), sum_of_things(width, things, way), width, words, way)
            self.assert_answer(dots(width, words, others, way), sum_of_things(width, products, way), width, words, way)
        self.assertEqual((words, others), kept)

    def test_as_other_programs_reckon(self):
        words = [0, 1, 0x000FFFFFFFFFFFFF, 0x0010000000000000, 0x3FF0000000000001, 0x7FEFFFFFFFFFFFFF]
        words += [place * 0x123456789ABCDEF % 0x7FF0000000000000 for place in range(1, 60)]
        words += [word + 2 ** 63 for word in words[::2]]
        for one, other in itertools.product(words, repeat=2):
            first, second = value(one), value(other)
            self.assertEqual(plus(DOUBLE, one, other)[0], bits(first + second))
            self.assertEqual(minus(DOUBLE, one, other)[0], bits(first - second))
            self.assertEqual(times(DOUBLE, one, other)[0], bits(first * second))


class Told(SumTest):
    def test_what_a_sum_loses_is_the_value_of_a_word(self):
        for width in WIDTHS:
            numbers = numbers_of(width)
            for one, other in itertools.product(numbers[::2], numbers):
                for way in ("even", "away"):
                    word, marks = plus(width, one, other, way)
                    if word % sign_of(width) != endless_in(width):
                        self.check_loss(width, one, other, word)

    def check_loss(self, width, one, other, word):
        lost = value_by_promise(width, one) + value_by_promise(width, other) - value_by_promise(width, word)
        power = 0
        while lost.denominator > 1:
            lost, power = lost * 2, power - 1
        number = lost.numerator
        while number != 0 and number % 2 == 0:
            number, power = number // 2, power + 1
        self.assertIsNotNone(fitting(width, (number, power if number else 0)))

    def test_a_total_does_not_hang_on_the_order(self):
        for width in (LEAST, (2, 2), HALF, MOST):
            words = words_to_try(width)
            for some in (words[1:5], [words[2], words[-6], words[-3], 1], numbers_of(width)[::7][:4], [0, sign_of(width), 1, 0]):
                for way in WAYS:
                    answers = {total(width, list(mixed), way) for mixed in itertools.permutations(some)}
                    self.assertEqual(len(answers), 1)

    def test_where_the_answer_is_a_words_value_there_are_no_marks(self):
        for width in NARROW[:5]:
            numbers = numbers_of(width)
            values = {value_by_promise(width, word) for word in numbers}
            for one, other in itertools.product(numbers[::2], numbers):
                for exact, function in ((lambda x, y: x + y, plus), (lambda x, y: x - y, minus), (lambda x, y: x * y, times)):
                    answer = exact(value_by_promise(width, one), value_by_promise(width, other))
                    for way in WAYS:
                        word, marks = function(width, one, other, way)
                        self.assertEqual(marks == 0, answer in values)
                        if marks == 0:
                            self.assertEqual(value_by_promise(width, word), answer)

    def test_half_a_step_lost_by_each_way(self):
        for width in WIDTHS:
            bias = 2 ** (width[0] - 1) - 1
            one = bias * 2 ** width[1]
            step = Fraction(2) ** -width[1]
            for way in WAYS:
                # One, and three halves of a step of it.
                terms = [one, fitting(width, (3, -width[1] - 1))]
                if terms[1] is not None:
                    expected = taken_by_promise(width, 1 + step * 3 / 2, way)
                    self.assert_answer(plus(width, *terms, way), expected, width, way)


class Refused(SumTest):
    def test_what_is_no_word_in_each_place(self):
        for width in (LEAST, HALF, MOST):
            for wrong in not_words(width):
                for fine in (0, endless_in(width), endless_in(width) + 1, none_in(width)):
                    for function in (plus, minus, times):
                        self.assert_refused("NoWord", function, width, wrong, fine)
                        self.assert_refused("NoWord", function, width, fine, wrong)
                        self.assert_refused("NoWord", function, width, fine, wrong, "no way")
                        self.assert_refused("NoWord", function, width, wrong, fine, None)
                for words in ((wrong, 0, 0), (0, wrong, 0), (0, 0, wrong), (wrong, wrong, wrong)):
                    self.assert_refused("NoWord", fused, width, *words)
                    self.assert_refused("NoWord", fused, width, *words, "no way")
                for words in ([wrong], [0, wrong], [wrong, 0], [endless_in(width) + 1, wrong]):
                    fine = [0] * len(words)
                    self.assert_refused("NoWord", total, width, words)
                    self.assert_refused("NoWord", total, width, words, "no way")
                    self.assert_refused("NoWord", dots, width, words, fine)
                    self.assert_refused("NoWord", dots, width, fine, words)
                    self.assert_refused("NoWord", dots, width, fine, words, "no way")

    def test_what_is_no_way_needed_or_not(self):
        for wrong in NOT_WAYS:
            for one, other in ((0, 0), (0x3C00, 0x3C00), (0x7C00, 0), (0x7C00, 0x7C00), (0x7E00, 0), (0, 0x7C01), (0x3C01, 1)):
                for function in (plus, minus, times):
                    self.assert_refused("NoWay", function, HALF, one, other, wrong)
                self.assert_refused("NoWay", fused, HALF, one, other, other, wrong)
                self.assert_refused("NoWay", total, HALF, [one, other], wrong)
                self.assert_refused("NoWay", dots, HALF, [one], [other], wrong)
            self.assert_refused("NoWay", total, HALF, [], wrong)
            self.assert_refused("NoWay", dots, HALF, [], [], wrong)

    def test_lists_of_two_lengths(self):
        for ones, others in (([], [0]), ([0], []), ([0, 0], [0]), ([0], [0, 0]), ([0] * 300, [0] * 299)):
            self.assert_refused("NoMatch", dots, HALF, ones, others)
            self.assert_refused("NoMatch", dots, HALF, ones, others, "no way")
            self.assert_refused("NoMatch", dots, HALF, [-1 for one in ones], others)
            self.assert_refused("NoMatch", dots, HALF, ones, [None for one in others], "no way")
            self.assert_refused("NoMatch", dots, HALF, [None for one in ones], ["" for one in others], None)

    def test_what_is_refused_is_not_changed(self):
        words = [0x3C00, 0x7C01, -1]
        others = [0x3C00, None, 5]
        for function, args in ((total, (words,)), (dots, (words, others)), (dots, (words, others[:2]))):
            with self.assertRaises(ValueError):
                function(HALF, *args)
        self.assertEqual((words, others), ([0x3C00, 0x7C01, -1], [0x3C00, None, 5]))

    def test_what_is_no_width(self):
        for wrong in NOT_WIDTHS:
            for function in (plus, minus, times):
                self.assert_refused("NoWidth", function, wrong, 0, 0)
            self.assert_refused("NoWidth", fused, wrong, 0, 0, 0)
            self.assert_refused("NoWidth", total, wrong, [])
            self.assert_refused("NoWidth", total, wrong, [0])
            self.assert_refused("NoWidth", dots, wrong, [], [])
            self.assert_refused("NoWidth", dots, wrong, [0], [0])


if __name__ == "__main__":
    unittest.main()

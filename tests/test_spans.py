"""[43] to [45] Spans: made, asked what they hold, and reckoned with; of [4] what speaks of spans."""

import itertools
import math
import unittest
from fractions import Fraction

from floatforge.spans import holds, span_from, span_minus, span_of, span_over, span_plus, span_root, span_times
from floatforge.widths import width_of
from tests.helpers import (
    NOT_WIDTHS, WIDTHS, PromiseTest, endless_in, is_none, none_in, not_words, sign_of, size_taken, taken_by_promise,
    value_by_promise, words_to_try,
)

HALF = width_of(5, 10)
LEAST = width_of(2, 1)
MOST = width_of(11, 60)

GREAT = 10 ** 2000 - 1
PAIRS = (span_plus, span_minus, span_times, span_over)


def end_of(width, word):
    """A word's value, or what is endless either way."""
    if word % sign_of(width) == endless_in(width):
        return -math.inf if word >= sign_of(width) else math.inf
    return value_by_promise(width, word)


def is_endless(end):
    return end in (math.inf, -math.inf)


def added(one, other):
    if is_endless(one) or is_endless(other):
        return one if is_endless(one) else other
    return one + other


def multiplied(one, other):
    if 0 in (one, other):
        return Fraction(0)
    if is_endless(one) or is_endless(other):
        return math.inf if (one > 0) == (other > 0) else -math.inf
    return one * other


def divided(one, other):
    if is_endless(other):
        return Fraction(0)
    return multiplied(one, 1 / other)


def taken_end(width, end, way):
    if is_endless(end):
        return endless_in(width) + (sign_of(width) if end < 0 else 0)
    word = taken_by_promise(width, end, way)[0]
    return 0 if word == sign_of(width) else word


def span_held(function, width, one, other):
    """The span that has to be told: the exact least and greatest answers, taken down and up."""
    a, b = (end_of(width, word) for word in one)
    c, d = (end_of(width, word) for word in other)
    if function is span_plus:
        ends = [added(a, c), added(b, d)]
    elif function is span_minus:
        ends = [added(a, -d), added(b, -c)]
    elif function is span_times:
        ends = [multiplied(*pair) for pair in itertools.product((a, b), (c, d))]
    elif c <= 0 <= d:
        ends = [-math.inf, math.inf]
    else:
        ends = [divided(*pair) for pair in itertools.product((a, b), (c, d))]
    return taken_end(width, min(ends), "down"), taken_end(width, max(ends), "up")


def rank(width, word):
    return word if word < sign_of(width) else sign_of(width) - word


def all_spans(width):
    """Each span of a narrow width."""
    most = endless_in(width)
    ranks = range(-most, most + 1)
    pairs = [(low, high) for low in ranks for high in ranks if low <= high and low != most and high != -most]
    return [tuple(end if end >= 0 else sign_of(width) - end for end in pair) for pair in pairs]


def some_spans(width):
    """Spans of all signs of a wide width, endless ends and points among them."""
    words = sorted({0 if word == sign_of(width) else word for word in words_to_try(width) if not is_none(width, word)},
                   key=lambda word: rank(width, word))
    pairs = [(low, high) for low, high in itertools.combinations_with_replacement(words, 2)
             if low != endless_in(width) and high != endless_in(width) + sign_of(width)]
    return pairs[::max(1, len(pairs) // 40)]


def amounts_in(width, span):
    """Fractions that a span holds: its ends, and some between and beyond."""
    low, high = (end_of(width, word) for word in span)
    ends = [end for end in (low, high) if not is_endless(end)]
    far = Fraction(2) ** 1100
    low = (min(ends + [Fraction(0)]) - far) if is_endless(low) else low
    high = (max(ends + [Fraction(0)]) + far) if is_endless(high) else high
    return sorted({low, high, (low + high) / 2, (2 * low + high) / 3, low + (high - low) / 1000003} | set(ends))


def lies_within(width, span, number):
    low, high = (end_of(width, word) for word in span)
    return low <= number <= high


class SpanTest(PromiseTest):
    def assert_span(self, width, span, expected, *args):
        self.assert_tuple_of_wholes(span, 2)
        if span != expected:
            self.fail(f"{width} {args}: answered {span}, expected {expected}")


class Made(SpanTest):
    def test_of_two_words(self):
        told = (
            (0x3C00, 0x4000), (0xC000, 0x3C00), (0x3C00, 0x3C00), (0x0000, 0x0000), (0xFC00, 0x7C00), (0xFC00, 0xFBFF),
            (0x7BFF, 0x7C00), (0x8001, 0x0001), (0xFC00, 0x0000), (0x0000, 0x7C00), (0xBC00, 0x0000),
        )
        for low, high in told:
            self.assert_span(HALF, span_from(HALF, low, high), (low, high))

    def test_either_nought_is_the_word_0(self):
        told = (((0x8000, 0x8000), (0, 0)), ((0x0000, 0x8000), (0, 0)), ((0x8000, 0x0000), (0, 0)), ((0x8000, 0x3C00), (0, 0x3C00)),
                ((0xBC00, 0x8000), (0xBC00, 0)), ((0x8000, 0x7C00), (0, 0x7C00)), ((0xFC00, 0x8000), (0xFC00, 0)))
        for words, span in told:
            self.assert_span(HALF, span_from(HALF, *words), span)

    def test_words_that_tell_no_span(self):
        wrong = (
            (0x4000, 0x3C00), (0x3C00, 0xC000), (0xBC00, 0xC000), (0x0001, 0x0000), (0x0001, 0x8000), (0x0000, 0x8001),
            (0x7C00, 0x7C00), (0xFC00, 0xFC00), (0x7C00, 0xFC00), (0x7C00, 0x3C00), (0x3C00, 0xFC00),
            (0x7E00, 0x7E00), (0x7E00, 0x3C00), (0x3C00, 0x7E00), (0xFC00, 0xFE00), (0x7C01, 0x3C00), (0x3C00, 0xFC01),
            (0x0000, 0x7FFF), (0xFFFF, 0x7C00),
        )
        for low, high in wrong:
            self.assert_refused("NoSpan", span_from, HALF, low, high)

    def test_all_pairs_of_narrow_widths(self):
        for width in (LEAST, (2, 2)):
            spans = set(all_spans(width))
            for low, high in itertools.product(words_to_try(width), repeat=2):
                asked = tuple(0 if word == sign_of(width) else word for word in (low, high))
                if asked in spans:
                    self.assert_span(width, span_from(width, low, high), asked)
                else:
                    self.assert_refused("NoSpan", span_from, width, low, high)

    def test_what_is_no_word(self):
        for width in WIDTHS:
            for wrong in not_words(width):
                for fine in (0, 1, endless_in(width), none_in(width), endless_in(width) + 1):
                    self.assert_refused("NoWord", span_from, width, wrong, fine)
                    self.assert_refused("NoWord", span_from, width, fine, wrong)

    def test_of_an_amount(self):
        told = (
            ((1, 0, 1), (0x3C00, 0x3C00)), ((-5, 0, 1), (0xC500, 0xC500)), ((1, 0, 3), (0x3555, 0x3556)),
            ((-1, 0, 3), (0xB556, 0xB555)), ((0, 5, 3), (0, 0)), ((1, -30, 1), (0, 1)), ((-1, -30, 1), (0x8001, 0)),
            ((1, 20, 1), (0x7BFF, 0x7C00)), ((-1, 20, 1), (0xFC00, 0xFBFF)), ((65505, 0, 1), (0x7BFF, 0x7C00)),
            ((GREAT, 9000, 1), (0x7BFF, 0x7C00)), ((-1, -9000, GREAT), (0x8001, 0)),
        )
        for args, span in told:
            self.assert_span(HALF, span_of(HALF, *args), span, args)
            self.assertIs(holds(HALF, span, *args), True)

    def test_of_amounts_in_all_widths(self):
        for width in WIDTHS:
            for n, k, d in itertools.product((-7, -1, 1, 3, GREAT), (-1200, -2, 0, 1, 1100), (1, 3, 2 ** 70)):
                number = Fraction(n, d) * Fraction(2) ** k
                expected = taken_end(width, number, "down"), taken_end(width, number, "up")
                self.assert_span(width, span_of(width, n, k, d), expected, n, k, d)
                self.assertIs(holds(width, expected, n, k, d), True)

    def test_what_is_no_width(self):
        for wrong in NOT_WIDTHS:
            self.assert_refused("NoWidth", span_from, wrong, 0, 0)
            self.assert_refused("NoWidth", span_of, wrong, 0, 0, 1)
            self.assert_refused("NoWidth", holds, wrong, (0, 0), 0, 0, 1)
            self.assert_refused("NoWidth", span_root, wrong, (0, 0))
            for function in PAIRS:
                self.assert_refused("NoWidth", function, wrong, (0, 0), (0, 0))


class Holds(SpanTest):
    def test_known_spans(self):
        told = (
            ((0x3C00, 0x4000), (1, 0, 1), True), ((0x3C00, 0x4000), (2, 0, 1), True), ((0x3C00, 0x4000), (3, 0, 2), True),
            ((0x3C00, 0x4000), (2001, 0, 1000), False), ((0x3C00, 0x4000), (999, 0, 1000), False), ((0x3C00, 0x4000), (-3, 0, 2), False),
            ((0, 0), (0, 5, 3), True), ((0, 0), (1, -9000, 1), False), ((0, 0), (-1, -9000, 1), False),
            ((0xFC00, 0x7C00), (GREAT, 9000, 1), True), ((0xFC00, 0x7C00), (-GREAT, 9000, 1), True), ((0xFC00, 0x7C00), (0, 0, 1), True),
            ((0x7BFF, 0x7C00), (1, 9000, 1), True), ((0x7BFF, 0x7C00), (65503, 0, 1), False), ((0xFC00, 0), (1, -9000, 1), False),
            ((0xFC00, 0), (-1, 9000, 1), True), ((0xFC00, 0), (0, 0, 1), True), ((0xC000, 0xBC00), (-3, 0, 2), True),
            ((0xC000, 0xBC00), (3, 0, 2), False), ((0x3555, 0x3556), (1, 0, 3), True), ((0x3555, 0x3555), (1, 0, 3), False),
        )
        for span, args, answer in told:
            with self.subTest(span=span, args=args[1:]):
                self.assertIs(holds(HALF, span, *args), answer)

    def test_at_the_ends_and_beside(self):
        for width in WIDTHS:
            for span in some_spans(width):
                for end in [end_of(width, word) for word in span]:
                    if not is_endless(end):
                        for shift in (Fraction(0), Fraction(1, 2 ** 2000), -Fraction(1, 2 ** 2000)):
                            self.check(width, span, end + shift)

    def check(self, width, span, number):
        n, d = number.numerator, number.denominator
        self.assertIs(holds(width, span, n, 0, d), lies_within(width, span, number))
        self.assertIs(holds(width, span, n, -7, 3 * d), lies_within(width, span, number / 384))

    def test_what_is_no_word_or_no_span(self):
        for wrong in not_words(HALF):
            self.assert_refused("NoWord", holds, HALF, (wrong, 0), 0, 0, 1)
            self.assert_refused("NoWord", holds, HALF, (0, wrong), 0, 0, 1)
        for wrong in ((0x4000, 0x3C00), (0x7E00, 0x3C00), (0x3C00, 0x7C01), (0x7C00, 0x7C00), (0xFC00, 0xFC00)):
            self.assert_refused("NoSpan", holds, HALF, wrong, 0, 0, 1)


class Reckoned(SpanTest):
    def check(self, function, one, other, expected):
        self.assert_span(HALF, function(HALF, one, other), expected, function.__name__, one, other)

    def test_plus(self):
        self.check(span_plus, (0x3C00, 0x4000), (0x4200, 0x4400), (0x4400, 0x4600))
        self.check(span_plus, (0xBC00, 0x3C00), (0xBC00, 0x3C00), (0xC000, 0x4000))
        self.check(span_plus, (0x3C00, 0x3C00), (0x0001, 0x0001), (0x3C00, 0x3C01))
        self.check(span_plus, (0x3C00, 0x3C00), (0xBC00, 0xBC00), (0, 0))
        self.check(span_plus, (0xFC00, 0x3C00), (0x3C00, 0x7C00), (0xFC00, 0x7C00))
        self.check(span_plus, (0x7BFF, 0x7BFF), (0x7BFF, 0x7BFF), (0x7BFF, 0x7C00))
        self.check(span_plus, (0xFBFF, 0xFBFF), (0xFBFF, 0xFBFF), (0xFC00, 0xFBFF))
        self.check(span_plus, (0x7BFF, 0x7C00), (0xFC00, 0xFBFF), (0xFC00, 0x7C00))

    def test_minus(self):
        self.check(span_minus, (0x4200, 0x4400), (0x3C00, 0x4000), (0x3C00, 0x4200))
        self.check(span_minus, (0x3C00, 0x3C00), (0x3C00, 0x3C00), (0, 0))
        self.check(span_minus, (0, 0), (0, 0), (0, 0))
        self.check(span_minus, (0, 0), (0x3C00, 0x4000), (0xC000, 0xBC00))
        self.check(span_minus, (0x3C00, 0x7C00), (0x3C00, 0x7C00), (0xFC00, 0x7C00))
        self.check(span_minus, (0xFC00, 0), (0, 0x7C00), (0xFC00, 0))

    def test_times(self):
        self.check(span_times, (0x3C00, 0x4000), (0x4200, 0x4400), (0x4200, 0x4800))
        self.check(span_times, (0xBC00, 0x4000), (0xC200, 0x4400), (0xC600, 0x4800))
        self.check(span_times, (0xC000, 0xBC00), (0xC400, 0xC200), (0x4200, 0x4800))
        self.check(span_times, (0xC000, 0xBC00), (0x4200, 0x4400), (0xC800, 0xC200))
        self.check(span_times, (0x0001, 0x0001), (0x0001, 0x0001), (0, 1))
        self.check(span_times, (0x8001, 0x8001), (0x0001, 0x0001), (0x8001, 0))
        self.check(span_times, (0xBC00, 0xBC00), (0, 0), (0, 0))

    def test_a_nought_times_endless_is_nought(self):
        self.check(span_times, (0, 0), (0xFC00, 0x7C00), (0, 0))
        self.check(span_times, (0, 0x3C00), (0x3C00, 0x7C00), (0, 0x7C00))
        self.check(span_times, (0xBC00, 0), (0x3C00, 0x7C00), (0xFC00, 0))
        self.check(span_times, (0xFC00, 0), (0xFC00, 0), (0, 0x7C00))
        self.check(span_times, (0, 0x7C00), (0xFC00, 0), (0xFC00, 0))
        self.check(span_times, (0x3C00, 0x4000), (0xFC00, 0x7C00), (0xFC00, 0x7C00))

    def test_over(self):
        self.check(span_over, (0x3C00, 0x4000), (0x4000, 0x4400), (0x3400, 0x3C00))
        self.check(span_over, (0xBC00, 0x4000), (0x4000, 0x4400), (0xB800, 0x3C00))
        self.check(span_over, (0x3C00, 0x3C00), (0x4200, 0x4200), (0x3555, 0x3556))
        self.check(span_over, (0x3C00, 0x4000), (0xC400, 0xC000), (0xBC00, 0xB400))
        self.check(span_over, (0, 0), (0xC400, 0xC000), (0, 0))

    def test_over_a_span_that_holds_nought(self):
        for other in ((0, 0), (0, 0x3C00), (0xBC00, 0), (0xBC00, 0x3C00), (0x8001, 1), (0xFC00, 0x7C00), (0xFC00, 0), (0, 0x7C00)):
            for one in ((0x3C00, 0x3C00), (0, 0), (0xFC00, 0x7C00), (0x3C00, 0x7C00)):
                self.check(span_over, one, other, (0xFC00, 0x7C00))

    def test_endless_over_endless_is_nought(self):
        self.check(span_over, (0x3C00, 0x7C00), (0x3C00, 0x7C00), (0, 0x7C00))
        self.check(span_over, (0x3C00, 0x7C00), (0x4000, 0x4000), (0x3800, 0x7C00))
        self.check(span_over, (0x3C00, 0x4000), (0x3C00, 0x7C00), (0, 0x4000))
        self.check(span_over, (0xFC00, 0xBC00), (0x4000, 0x7C00), (0xFC00, 0))
        self.check(span_over, (0xFC00, 0x7C00), (0x3C00, 0x7C00), (0xFC00, 0x7C00))
        self.check(span_over, (0xFC00, 0xBC00), (0xFC00, 0xC000), (0, 0x7C00))

    def test_root(self):
        told = (((0x3C00, 0x4400), (0x3C00, 0x4000)), ((0x4000, 0x4200), (0x3DA8, 0x3EEE)), ((0, 0x3C00), (0, 0x3C00)),
                ((0, 0), (0, 0)), ((0x3C00, 0x7C00), (0x3C00, 0x7C00)), ((0, 0x7C00), (0, 0x7C00)), ((0x0001, 0x0001), (0x0C00, 0x0C00)))
        for one, expected in told:
            self.assert_span(HALF, span_root(HALF, one), expected, one)

    def test_the_root_of_a_span_that_begins_below_nought(self):
        for one in ((0xBC00, 0x3C00), (0x8001, 0), (0x8001, 0x8001), (0xFC00, 0x7C00), (0xFC00, 0xFBFF), (0xC000, 0xBC00)):
            self.assert_refused("NoSpan", span_root, HALF, one)

    def test_all_pairs_of_spans_of_the_narrowest_width(self):
        spans = all_spans(LEAST)
        for one, other in itertools.product(spans[::2], spans):
            self.check_held(LEAST, one, other)

    def test_pairs_of_spans_of_all_widths(self):
        for width in WIDTHS:
            spans = some_spans(width)
            for one, other in itertools.product(spans[::2], spans[1::2]):
                self.check_held(width, one, other)

    def check_held(self, width, one, other):
        for function in PAIRS:
            expected = span_held(function, width, one, other)
            self.assert_span(width, function(width, one, other), expected, function.__name__, one, other)

    def test_roots_of_all_widths(self):
        for width in WIDTHS:
            for one in some_spans(width):
                if one[0] < sign_of(width):
                    low, high = (self.root_end(width, word, way) for word, way in zip(one, ("down", "up")))
                    self.assert_span(width, span_root(width, one), (low, high), one)
                else:
                    self.assert_refused("NoSpan", span_root, width, one)

    def root_end(self, width, word, way):
        if word in (0, endless_in(width)):
            return word
        value = value_by_promise(width, word)
        return size_taken(width, lambda other: (value > other * other) - (value < other * other), False, way)[0]

    def test_what_is_no_word_goes_ahead_of_what_is_no_span(self):
        for wrong in not_words(HALF):
            for function in PAIRS:
                for one, other in (((wrong, 0), (0, 0)), ((0, wrong), (0, 0)), ((0, 0), (wrong, 0)), ((0, 0), (0, wrong)),
                                   ((0x4000, 0x3C00), (0, wrong)), ((0x4000, 0x3C00), (wrong, 0)), ((0x7E00, wrong), (0, 0)),
                                   ((wrong, 0x3C00), (0x4000, 0x3C00))):
                    self.assert_refused("NoWord", function, HALF, one, other)
            self.assert_refused("NoWord", span_root, HALF, (wrong, 0))
            self.assert_refused("NoWord", span_root, HALF, (0xBC00, wrong))

    def test_what_is_no_span(self):
        for wrong in ((0x4000, 0x3C00), (0x7E00, 0x3C00), (0x3C00, 0x7C01), (0x7C00, 0x7C00), (0xFC00, 0xFC00), (), (0,), (0, 0, 0), None):
            for function in PAIRS:
                self.assert_refused("NoSpan", function, HALF, wrong, (0, 0))
                self.assert_refused("NoSpan", function, HALF, (0, 0), wrong)
            self.assert_refused("NoSpan", span_root, HALF, wrong)


class ExactAnswersAreHeld(SpanTest):
    """[45] Whatever amounts two spans hold, the exact answer reckoned of them is held by the span told."""

    def test_sums_differences_products_and_quotients(self):
        for width in (LEAST, (2, 4), (5, 2), HALF, (8, 23), MOST):
            spans = some_spans(width)
            for one, other in itertools.product(spans[::4], spans[1::5]):
                told = [function(width, one, other) for function in PAIRS]
                for first, second in itertools.product(amounts_in(width, one), amounts_in(width, other)):
                    answers = [first + second, first - second, first * second] + ([first / second] if second else [])
                    for span, answer in zip(told, answers):
                        self.assert_holds(width, span, answer)

    def test_roots(self):
        for width in WIDTHS:
            for one in some_spans(width):
                if one[0] < sign_of(width):
                    span = span_root(width, one)
                    low, high = (end_of(width, word) for word in span)
                    for amount in amounts_in(width, one):
                        self.assertTrue(low * low <= amount and (is_endless(high) or amount <= high * high))

    def assert_holds(self, width, span, number):
        self.assertIs(holds(width, span, number.numerator, 0, number.denominator), True, (width, span, number))


if __name__ == "__main__":
    unittest.main()

"""[25] and [26] Terms of words and of products, and how terms are gathered."""

import itertools
import unittest
from fractions import Fraction

from floatforge.terms import gathered, product, term_of
from floatforge.widths import width_of
from tests.helpers import (
    NARROW, NOT_WAYS, NOT_WIDTHS, WAYS, WIDTHS, PromiseTest, endless_in, fraction_of, not_words, none_in, product_of_things,
    shown, sign_of, sum_of_things, thing_of, words_to_try,
)

HALF = width_of(5, 10)
LEAST = width_of(2, 1)
MOST = width_of(11, 60)

WRONG = ("wrong", False, (0, 0))
NONE = ("none", False, (0, 0))
ENDLESS = ("endless", False, (0, 0))
BELOW = ("endless", True, (0, 0))
NOUGHT = ("number", False, (0, 0))
MINUS_NOUGHT = ("number", True, (0, 0))
ONE = ("number", False, (1, 0))
MINUS_ONE = ("number", True, (1, 0))

GREAT = 10 ** 2000 - 1


def term_of_thing(thing):
    """The term that a thing reckoned with Fractions has to be."""
    kind, sign, value = thing
    if kind in ("loud", "still"):
        return WRONG if kind == "loud" else NONE
    if kind == "endless":
        return BELOW if sign else ENDLESS
    size = abs(value)
    power = 0
    while size.denominator > 1:
        size, power = size * 2, power - 1
    while size != 0 and size.numerator % 2 == 0:
        size, power = size / 2, power + 1
    return "number", sign == 1, (size.numerator, power)


def thing_of_term(term):
    kind, below, size = term
    kind = {"wrong": "loud", "none": "still"}.get(kind, kind)
    value = fraction_of(size) * (-1 if below else 1)
    return kind, 1 if below else 0, value if kind == "number" else None


class TermTest(PromiseTest):
    def assert_term(self, term, expected, *args):
        self.assertEqual((type(term), type(term[0]), type(term[1])), (tuple, str, bool))
        self.assert_tuple_of_wholes(term[2], 2)
        self.assertEqual(term, expected, [shown(arg) for arg in args])


class OfWords(TermTest):
    def test_known_words(self):
        told = {
            0x0000: NOUGHT, 0x8000: MINUS_NOUGHT, 0x3C00: ONE, 0xBC00: MINUS_ONE, 0x7C00: ENDLESS, 0xFC00: BELOW,
            0x7E00: NONE, 0xFE00: NONE, 0xFFFF: NONE, 0x7C01: WRONG, 0xFC01: WRONG, 0x7DFF: WRONG,
            0x0001: ("number", False, (1, -24)), 0x83FF: ("number", True, (1023, -24)), 0xFBFF: ("number", True, (2047, 5)),
        }
        for word, term in told.items():
            self.assert_term(term_of(HALF, word), term, word)

    def test_all_widths(self):
        for width in WIDTHS:
            for word in words_to_try(width):
                self.assert_term(term_of(width, word), term_of_thing(thing_of(width, word)), width, word)

    def test_what_is_no_word_is_refused(self):
        for width in WIDTHS:
            for wrong in not_words(width):
                self.assert_refused("NoWord", term_of, width, wrong)
                self.assert_refused("NoWord", product, width, wrong, 0)
                self.assert_refused("NoWord", product, width, 0, wrong)
                self.assert_refused("NoWord", product, width, endless_in(width), wrong)
                self.assert_refused("NoWord", product, width, none_in(width), wrong)
                self.assert_refused("NoWord", product, width, endless_in(width) + 1, wrong)

    def test_what_is_no_width_is_refused(self):
        for wrong in NOT_WIDTHS:
            self.assert_refused("NoWidth", term_of, wrong, 0)
            self.assert_refused("NoWidth", product, wrong, 0, 0)


class OfProducts(TermTest):
    def test_known_words(self):
        told = (
            (0x3C00, 0x3C00, ONE), (0x3C00, 0xBC00, MINUS_ONE), (0xBC00, 0xBC00, ONE), (0x0000, 0x3C00, NOUGHT),
            (0x8000, 0x3C00, MINUS_NOUGHT), (0x8000, 0xBC00, NOUGHT), (0x0000, 0x8000, MINUS_NOUGHT),
            (0x4200, 0xC500, ("number", True, (15, 0))), (0x0001, 0x0001, ("number", False, (1, -48))),
            (0x7C00, 0x3C00, ENDLESS), (0x3C00, 0x7C00, ENDLESS), (0x7C00, 0x8001, BELOW), (0xFC00, 0xFC00, ENDLESS),
            (0xFC00, 0x7C00, BELOW), (0x7C00, 0x0000, WRONG), (0x0000, 0x7C00, WRONG), (0xFC00, 0x0000, WRONG),
            (0x8000, 0xFC00, WRONG), (0x7E00, 0x3C00, NONE), (0x3C00, 0xFE00, NONE), (0x7E00, 0x7C00, NONE),
            (0x0000, 0x7E00, NONE), (0x7C01, 0x3C00, WRONG), (0x7E00, 0x7C01, WRONG), (0xFC01, 0x7E00, WRONG),
            (0x7C01, 0x7C00, WRONG), (0x8000, 0x7C01, WRONG),
        )
        for one, other, term in told:
            self.assert_term(product(HALF, one, other), term, one, other)

    def test_all_widths(self):
        for width in WIDTHS:
            words = words_to_try(width)
            for one, other in itertools.product(words[::2], words):
                thing = product_of_things(thing_of(width, one), thing_of(width, other))
                self.assert_term(product(width, one, other), term_of_thing(thing), width, one, other)


class Gathered(TermTest):
    def check(self, terms, *answers):
        for way, answer in zip(WAYS, answers if len(answers) > 1 else answers * 5):
            self.assert_answer(gathered(HALF, terms, way), answer, terms, way)

    def test_a_wrong_term(self):
        for others in ([], [ONE], [NONE], [ENDLESS], [ENDLESS, BELOW], [NONE, NOUGHT, BELOW]):
            for place in range(len(others) + 1):
                self.check(others[:place] + [WRONG] + others[place:], (0x7E00, 1))

    def test_a_none(self):
        for others in ([], [ONE], [ENDLESS], [ENDLESS, BELOW], [NOUGHT, BELOW], [NONE]):
            for place in range(len(others) + 1):
                self.check(others[:place] + [NONE] + others[place:], (0x7E00, 0))

    def test_endless(self):
        self.check([ENDLESS], (0x7C00, 0))
        self.check([BELOW], (0xFC00, 0))
        self.check([ENDLESS, MINUS_ONE, ENDLESS], (0x7C00, 0))
        self.check([ONE, BELOW, BELOW], (0xFC00, 0))
        self.check([ENDLESS, BELOW], (0x7E00, 1))
        self.check([BELOW, ONE, BELOW, ENDLESS], (0x7E00, 1))
        self.check([("number", True, (1, 9000)), ENDLESS], (0x7C00, 0))

    def test_sums_that_come_to_nought(self):
        self.check([], (0, 0))
        self.check([NOUGHT], (0, 0))
        self.check([NOUGHT, NOUGHT, NOUGHT], (0, 0))
        self.check([MINUS_NOUGHT], (0x8000, 0))
        self.check([MINUS_NOUGHT, MINUS_NOUGHT], (0x8000, 0))
        mixed = [(0, 0)] * 4 + [(0x8000, 0)]
        self.check([NOUGHT, MINUS_NOUGHT], *mixed)
        self.check([MINUS_NOUGHT, NOUGHT], *mixed)
        self.check([ONE, MINUS_ONE], *mixed)
        self.check([MINUS_ONE, ONE], *mixed)
        self.check([ONE, MINUS_ONE, NOUGHT], *mixed)
        self.check([MINUS_NOUGHT, ONE, MINUS_ONE, MINUS_NOUGHT], *mixed)
        self.check([("number", False, (3, 5)), ("number", True, (1, 5)), ("number", True, (1, 6))], *mixed)

    def test_other_sums(self):
        self.check([ONE], (0x3C00, 0))
        self.check([ONE, ONE, MINUS_ONE], (0x3C00, 0))
        self.check([MINUS_ONE, MINUS_NOUGHT], (0xBC00, 0))
        self.check([ONE, ("number", False, (1, -11))], (0x3C00, 16), (0x3C01, 16), (0x3C00, 16), (0x3C01, 16), (0x3C00, 16))
        self.check([("number", True, (1, -25))], (0x8000, 24), (0x8001, 24), (0x8000, 24), (0x8000, 24), (0x8001, 24))
        self.check([("number", False, (1, 16))], (0x7C00, 20), (0x7C00, 20), (0x7BFF, 20), (0x7C00, 20), (0x7BFF, 20))

    def test_taken_once_alone(self):
        # Each of the little terms would be lost if it were taken to a word on its way.
        little = ("number", False, (1, -12))
        self.check([ONE, little, little, little, little], (0x3C01, 0))
        self.check([("number", False, (1, 9000)), ONE, ("number", True, (1, 9000))], (0x3C00, 0))
        self.check([("number", False, (1, 9000)), ("number", False, (1, -9000)), ("number", True, (1, 9000))],
                   (0, 24), (0, 24), (0, 24), (1, 24), (0, 24))

    def test_lists_of_three_hundred_terms(self):
        terms = [("number", place % 3 == 0, (2 * place + 1, place - 150)) for place in range(300)]
        for width in (LEAST, HALF, MOST):
            self.check_held(width, terms)
            self.check_held(width, [("number", below, (GREAT, 9000 if below else -9000)) for below in (False, True)] * 150)

    def check_held(self, width, terms):
        kept = list(terms)
        things = [thing_of_term(term) for term in terms]
        for way in WAYS:
            self.assert_answer(gathered(width, terms, way), sum_of_things(width, things, way), width, terms, way)
        self.assertEqual(terms, kept)

    def test_all_threes_of_terms(self):
        terms = (WRONG, NONE, ENDLESS, BELOW, NOUGHT, MINUS_NOUGHT, ONE, MINUS_ONE, ("number", False, (1, -1)),
                 ("number", True, (3, -3)), ("number", False, (7, 1)))
        for width in NARROW[:3]:
            for length in (1, 2, 3):
                for some in itertools.product(terms, repeat=length):
                    self.check_held(width, list(some))

    def test_the_way_left_out_is_even(self):
        for terms in ([], [ONE, MINUS_ONE], [ONE, ("number", False, (3, -11))], [("number", False, (1, 16))]):
            self.assertEqual(gathered(HALF, terms), gathered(HALF, terms, "even"))

    def test_the_way_is_looked_at_always(self):
        for wrong in NOT_WAYS:
            for terms in ([], [WRONG], [NONE], [ENDLESS], [ENDLESS, BELOW], [NOUGHT], [ONE, MINUS_ONE], [ONE]):
                self.assert_refused("NoWay", gathered, HALF, terms, wrong)

    def test_what_is_no_width_is_refused(self):
        for wrong in NOT_WIDTHS:
            for terms in ([], [WRONG], [ONE]):
                self.assert_refused("NoWidth", gathered, wrong, terms)

    def test_the_sign_of_endless_is_the_terms_own(self):
        for width in WIDTHS:
            self.assertEqual(gathered(width, [ENDLESS]), (endless_in(width), 0))
            self.assertEqual(gathered(width, [BELOW]), (endless_in(width) + sign_of(width), 0))
            self.assertEqual(gathered(width, [NONE]), (none_in(width), 0))
            self.assertEqual(fraction_of(term_of(width, 1)[2]), Fraction(2) ** (2 - 2 ** (width[0] - 1) - width[1]))


if __name__ == "__main__":
    unittest.main()

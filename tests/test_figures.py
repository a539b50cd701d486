"""[39] The parts of a text that writes a number."""

import re
import unittest
from fractions import Fraction

from floatforge.figures import parts_of
from tests.helpers import NOT_TEXTS, NOT_NUMBER_TEXTS, PromiseTest

# The form as one pattern, another way than by parts.
FORM = re.compile(r"(-?)([0-9]+)(?:\.([0-9]+))?(?:e(-?[0-9]{1,3}))?")


def parts_by_form(text):
    """The parts as the pattern tells them, None where the text writes no number."""
    match = FORM.fullmatch(text)
    if match is None or len(text) > 1200:
        return None
    sign, ahead, behind, power = match.groups()
    behind = behind or ""
    return sign == "-", int(ahead + behind), int(power or "0") - len(behind)


class Parts(PromiseTest):
    def check(self, text, below, whole, ten):
        parts = parts_of(text)
        self.assertEqual((type(parts), [type(part) for part in parts]), (tuple, [bool, int, int]))
        self.assertEqual(parts, (below, whole, ten), text[:60])

    def test_whole_numbers(self):
        self.check("0", False, 0, 0)
        self.check("-0", True, 0, 0)
        self.check("7", False, 7, 0)
        self.check("-7", True, 7, 0)
        self.check("1200", False, 1200, 0)
        self.check("-10", True, 10, 0)

    def test_with_a_point(self):
        self.check("1.5", False, 15, -1)
        self.check("-0.25", True, 25, -2)
        self.check("0.0", False, 0, -1)
        self.check("1.50", False, 150, -2)
        self.check("10.010", False, 10010, -3)
        self.check("-0.000", True, 0, -3)

    def test_with_a_power(self):
        self.check("1e0", False, 1, 0)
        self.check("1e5", False, 1, 5)
        self.check("1e-5", False, 1, -5)
        self.check("6e23", False, 6, 23)
        self.check("-3e999", True, 3, 999)
        self.check("3e-999", False, 3, -999)
        self.check("1e-0", False, 1, 0)
        self.check("2e007", False, 2, 7)
        self.check("2e-07", False, 2, -7)
        self.check("0e5", False, 0, 5)

    def test_with_both(self):
        self.check("6.02e23", False, 602, 21)
        self.check("-2.5e-1", True, 25, -2)
        self.check("1.000e-3", False, 1000, -6)
        self.check("0.5e999", False, 5, 998)
        self.check("12.34e2", False, 1234, 0)

    def test_noughts_ahead(self):
        self.check("007", False, 7, 0)
        self.check("-000", True, 0, 0)
        self.check("00.50", False, 50, -2)
        self.check("0001e001", False, 1, 1)

    def test_one_to_three_figures_behind_the_e_and_four(self):
        for sign, factor in (("", 1), ("-", -1)):
            for figures in ("1", "12", "123", "000", "999", "0", "09"):
                self.check("4e" + sign + figures, False, 4, factor * int(figures))
            for figures in ("1234", "0001", "0000", "", "12345"):
                self.assert_refused("NoText", parts_of, "4e" + sign + figures)

    def test_at_most_1200_signs(self):
        self.check("1" * 1200, False, int("1" * 1200), 0)
        self.check("-" + "9" * 1199, True, 10 ** 1199 - 1, 0)
        self.check("0" * 1199 + "3", False, 3, 0)
        self.check("1." + "0" * 1198, False, 10 ** 1198, -1198)
        self.check("-0." + "7" * 1192 + "e-999", True, int("7" * 1192), -1192 - 999)
        for text in ("1" * 1201, "-" + "9" * 1200, "0" * 1200 + "3", "1." + "0" * 1199, "-0." + "7" * 1193 + "e-999",
                     "0" * 1201, "1" * 5000):
            self.assert_refused("NoText", parts_of, text)

    def test_the_number_is_whole_times_a_power_of_ten(self):
        for text in ("1.5", "-0.25", "6.02e23", "-2.5e-1", "007.70e-2", "1e-30", "0.001e3"):
            below, whole, ten = parts_of(text)
            self.assertEqual(Fraction(text), (-1 if below else 1) * whole * Fraction(10) ** ten)

    def test_all_short_texts(self):
        texts = [""]
        for length in range(7):
            texts = [text + sign for text in texts for sign in "05.e-"]
            for text in texts:
                expected = parts_by_form(text)
                if expected is not None:
                    self.assertEqual(parts_of(text), expected)
                elif length < 5:
                    self.assert_refused("NoText", parts_of, text)
                else:
                    self.assertRaises(ValueError, parts_of, text)


class NoTexts(PromiseTest):
    def test_texts_that_write_no_number(self):
        for text in NOT_NUMBER_TEXTS:
            self.assert_refused("NoText", parts_of, text)

    def test_the_names_of_words_write_no_number(self):
        for text in ("none", "endless", "-endless"):
            self.assert_refused("NoText", parts_of, text)

    def test_one_other_sign_within(self):
        for text in ("12.5e-3", "-12", "0"):
            for place in range(len(text) + 1):
                for sign in [chr(code) for code in range(32, 127) if chr(code) not in "0123456789.e-"] + ["\n", "\t", "\u0663", "\uff15"]:
                    self.assert_refused("NoText", parts_of, text[:place] + sign + text[place:])

    def test_what_is_no_text(self):
        for wrong in NOT_TEXTS:
            self.assert_refused("NoText", parts_of, wrong)


if __name__ == "__main__":
    unittest.main()

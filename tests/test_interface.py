"""The interface: every name is there, with its arguments by their names, and a way that is left out is "even"."""

import importlib
import inspect
import unittest

FUNCTIONS = {
    "widths": "width_of(e, f) many_words(width) bias_of(width) least_power(width)",
    "words": "cut(width, word) joined(width, sign, exponent, fraction) kind_of(width, word) none_of(width) turned(width, word) "
             "unsigned(width, word) signed(width, word, other) bits_of(width, word) word_of(width, text)",
    "exacts": "exact(n, k) added(one, other) multiplied(one, other) is_below(one, other) value_of(width, word) "
              "fitting(width, number)",
    "amounts": "height_of(n, k, d) in_steps(n, k, d, g) against(n, k, d, number)",
    "order": "rank_of(width, word) word_at(width, rank) after(width, word) ahead(width, word) compared(width, one, other) "
             "in_order(width, words)",
    "marks": "marks_named(marks)",
    "ways": "way_of(name)",
    "rounding": "taken(width, n, k, d, way='even')",
    "terms": "term_of(width, word) product(width, one, other) gathered(width, terms, way='even')",
    "sums": "plus(width, one, other, way='even') minus(width, one, other, way='even') times(width, one, other, way='even') "
            "fused(width, one, other, third, way='even') total(width, words, way='even') dots(width, ones, others, way='even')",
    "quotients": "over(width, one, other, way='even') left_of(width, one, other)",
    "roots": "whole_root(n) root(width, word, way='even')",
    "wholes": "whole(width, word, way='even') number_of(width, word, way='even') of_number(width, n, way='even')",
    "moves": "scaled(width, word, j, way='even') holds_width(width, other) moved(width, other, word, way='even')",
    "figures": "parts_of(text)",
    "texts": "read(width, text, way='even') exact_text(width, word) shortest(width, word)",
    "spans": "span_from(width, low, high) span_of(width, n, k, d) holds(width, one, n, k, d) span_plus(width, one, other) "
             "span_minus(width, one, other) span_times(width, one, other) span_over(width, one, other) span_root(width, one)",
}
SLATE = ("plus(self, one, other) minus(self, one, other) times(self, one, other) over(self, one, other) left_of(self, one, other) "
         "root(self, word) whole(self, word) fused(self, one, other, third) total(self, words) read(self, text) "
         "compared(self, one, other) turn_to(self, way) wipe(self)")


def told(text):
    """The names and the signatures that a text lists."""
    return [tuple(part.split("(")) for part in text.replace(") ", ")|").replace(")", "").split("|")]


def module_of(name):
    return importlib.import_module("floatforge." + name)


class Interface(unittest.TestCase):
    def check(self, holder, text):
        for name, arguments in told(text):
            with self.subTest(name=name):
                self.assertEqual(str(inspect.signature(getattr(holder, name))), "(" + arguments + ")")

    def test_functions(self):
        for name, text in FUNCTIONS.items():
            self.check(module_of(name), text)

    def test_classes(self):
        slates, desks, ways = module_of("slates"), module_of("desks"), module_of("ways")
        self.assertEqual(str(inspect.signature(slates.Slate)), "(width, way='even')")
        self.assertEqual(str(inspect.signature(desks.Desk)), "(width)")
        self.check(slates.Slate, SLATE)
        self.check(desks.Desk, "say(self, row)")
        for name in ("Even", "Away", "Inward", "Upward", "Downward"):
            self.check(getattr(ways, name), "grows(self, odd, side, below)")
            self.assertEqual(str(inspect.signature(getattr(ways, name))), "()")
        self.assertEqual(str(inspect.signature(ways.Way)), "()")

    def test_marks(self):
        marks = module_of("marks")
        self.assertEqual([getattr(marks, name) for name in ("WRONG", "POLE", "GREAT", "SMALL", "NEAR")], [1, 2, 4, 8, 16])


if __name__ == "__main__":
    unittest.main()

"""[4] The whole's promise, over all that it names, with words and texts all over several widths; [1] and [2] along with it."""

import itertools
import unittest
from fractions import Fraction

from floatforge.moves import moved
from floatforge.order import after, ahead, in_order, rank_of
from floatforge.quotients import over
from floatforge.roots import root
from floatforge.spans import holds, span_minus, span_of, span_over, span_plus, span_times
from floatforge.sums import dots, fused, minus, plus, times, total
from floatforge.texts import read, shortest
from tests.helpers import (
    NARROW, WAYS, WIDTHS, PromiseTest, endless_in, is_none, is_number, numbers_of, sign_of, value_by_promise, words_to_try,
)

TRIED = ((2, 1), (2, 3), (3, 60), (5, 10), (8, 23), (11, 1), (11, 60))


def spread_words(width, count, seed):
    """Numbers all over a width, the same ones each time."""
    words, place = [], seed
    while len(words) < count:
        place = (place * 6364136223846793005 + 1442695040888963407) % 2 ** 90
        word = (place >> 10) % (2 * sign_of(width))
        if is_number(width, word):
            words.append(word)
    return words


def rank(width, word):
    return word if word < sign_of(width) else sign_of(width) - word


class Answers(PromiseTest):
    """The answer is a word with the exact value and no marks, or one of the two words next to it."""

    def check(self, width, way, answer, stands, size_below_plain):
        """`stands` tells how the exact answer stands to a Fraction: -1, 0, 1."""
        word, marks = answer
        if is_number(width, word) and stands(value_by_promise(width, word)) == 0:
            self.assertEqual(marks, 0)
            return
        lower, upper = self.round_it(width, word, stands)
        self.assertTrue(lower is None or stands(lower) > 0)
        self.assertTrue(upper is None or stands(upper) < 0)
        self.check_way(way, stands, word, (lower, upper), width)
        beyond = 2 ** (2 ** (width[0] - 1))
        overflown = not is_number(width, word) or stands(beyond) >= 0 or stands(-beyond) <= 0
        self.assertEqual(marks, 20 if overflown else 24 if size_below_plain else 16)

    def round_it(self, width, word, stands):
        """The values of the answer and of the word on the exact answer's other side, None for endless."""
        if is_number(width, word) and stands(value_by_promise(width, word)) > 0:
            return tuple(self.value(width, beside) for beside in (word, after(width, word)))
        if is_number(width, word):
            return tuple(self.value(width, beside) for beside in (ahead(width, word), word))
        return tuple(self.value(width, beside) for beside in ((ahead(width, word), word) if word < sign_of(width)
                                                              else (word, after(width, word))))

    def value(self, width, word):
        return value_by_promise(width, word) if is_number(width, word) else None

    def check_way(self, way, stands, word, beside, width):
        chosen = self.value(width, word)
        lower, upper = beside
        if way == "up":
            self.assertEqual(chosen, upper)
        elif way == "down":
            self.assertEqual(chosen, lower)
        elif way == "in":
            self.assertEqual(chosen, lower if stands(0) > 0 else upper)
        elif lower is not None and upper is not None:
            against_middle = stands((lower + upper) / 2)
            if against_middle != 0:
                self.assertEqual(chosen, upper if against_middle > 0 else lower)
            elif way == "even":
                self.assertEqual(word % 2, 0)
            else:
                self.assertEqual(abs(chosen), max(abs(lower), abs(upper)))

    def check_number(self, width, way, answer, exact):
        plain = Fraction(2) ** (2 - 2 ** (width[0] - 1))
        self.check(width, way, answer, lambda other: (exact > other) - (exact < other), abs(exact) < plain)

    def test_two_words(self):
        for width in TRIED:
            ones, others = spread_words(width, 40, 1), spread_words(width, 40, 2)
            for one, other in list(zip(ones, others)) + list(zip(ones, [one ^ 1 for one in ones if is_number(width, one ^ 1)])):
                x, y = value_by_promise(width, one), value_by_promise(width, other)
                for way in WAYS:
                    self.check_number(width, way, plus(width, one, other, way), x + y)
                    self.check_number(width, way, minus(width, one, other, way), x - y)
                    self.check_number(width, way, times(width, one, other, way), x * y)
                    if y != 0:
                        self.check_number(width, way, over(width, one, other, way), x / y)

    def test_roots(self):
        for width in TRIED:
            for word in spread_words(width, 60, 3):
                word %= sign_of(width)
                value = value_by_promise(width, word)
                plain = Fraction(2) ** (2 - 2 ** (width[0] - 1))

                def stands(other):
                    return 1 if other < 0 else (value > other * other) - (value < other * other)
                for way in WAYS:
                    self.check(width, way, root(width, word, way), stands, value < plain * plain)

    def test_lists(self):
        for width in TRIED:
            for seed in range(4, 12):
                ones, others = spread_words(width, seed, seed), spread_words(width, seed, 2 * seed)
                first, second = ([value_by_promise(width, word) for word in words] for words in (ones, others))
                for way in WAYS:
                    self.check_number(width, way, total(width, ones, way), sum(first))
                    self.check_number(width, way, dots(width, ones, others, way), sum(x * y for x, y in zip(first, second)))
                    self.check_number(width, way, fused(width, *ones[:3], way), first[0] * first[1] + first[2])

    def test_texts(self):
        for width in TRIED:
            for place in range(1, 120):
                power = place * 37 % 670 - 340 if width[0] > 8 else place * 37 % 19 - 9
                text = f"{'-' if place % 3 == 0 else ''}{place * 7919 % 9973}.{place * 104729 % 1299709}e{power}"
                for way in WAYS:
                    self.check_number(width, way, read(width, text, way), Fraction(text))

    def test_words_of_other_widths(self):
        for width, other in itertools.permutations(TRIED, 2):
            for word in spread_words(width, 8, 13):
                for way in WAYS:
                    self.check_number(other, way, moved(width, other, word, way), value_by_promise(width, word))


class TheRest(PromiseTest):
    def test_words_in_the_order_of_their_ranks_are_numbers_in_order(self):
        for width in WIDTHS + TRIED:
            words = numbers_of(width) if width in NARROW else spread_words(width, 80, 14)
            ranked = sorted(words, key=lambda word: rank_of(width, word))
            values = [value_by_promise(width, word) for word in ranked]
            self.assertEqual(values, sorted(values))
            self.assertEqual([rank(width, word) for word in words], [rank_of(width, word) for word in words])
            self.assertEqual([value_by_promise(width, word) for word in in_order(width, words)], values)

    def test_moved_there_and_back(self):
        for width, other in itertools.product(TRIED, repeat=2):
            if width[0] <= other[0] and width[1] <= other[1]:
                for word in spread_words(width, 30, 15) + [word for word in words_to_try(width) if not is_none(width, word)]:
                    for way in WAYS:
                        there = moved(width, other, word, way)
                        self.assertEqual(moved(other, width, there[0], way), (word, 0))
                        self.assertEqual(there[1], 0)

    def test_shortest_texts_read_back(self):
        for width in TRIED + ((4, 4), (7, 40), (10, 52)):
            for word in spread_words(width, 60, 16) + [0, sign_of(width), endless_in(width), endless_in(width) + sign_of(width)]:
                text = shortest(width, word)
                self.assertEqual(read(width, text)[0], word)

    def test_no_text_of_fewer_figures_reads_back(self):
        for width in TRIED + ((4, 4), (7, 40), (10, 52)):
            for word in spread_words(width, 40, 17):
                text = shortest(width, word).replace("-", "", 1) if word >= sign_of(width) else shortest(width, word)
                figures = text.partition("e")[0].replace(".", "")
                power = int(text.partition("e")[2] or "0") - len(figures) + 1
                if len(figures) > 1:
                    # All numbers of one figure less that are as near as these two are read to other words.
                    lower = int(figures) // 10
                    for whole in range(lower - 1, lower + 3):
                        self.assertNotEqual(read(width, f"{whole}e{power + 1}")[0], word % sign_of(width))

    def test_spans_hold_the_exact_answers(self):
        for width in TRIED:
            numbers = [Fraction(n, d) for n, d in ((1, 3), (-7, 5), (22, 7), (-1, 1000), (0, 1), (3, 1), (10 ** 30, 7), (-2, 10 ** 30))]
            for x, y in itertools.product(numbers, repeat=2):
                one, other = (span_of(width, number.numerator, 0, number.denominator) for number in (x, y))
                answers = [(span_plus, x + y), (span_minus, x - y), (span_times, x * y)] + ([(span_over, x / y)] if y else [])
                for function, answer in answers:
                    span = function(width, one, other)
                    self.assertIs(holds(width, span, answer.numerator, 0, answer.denominator), True)


if __name__ == "__main__":
    unittest.main()

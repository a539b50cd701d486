"""[46] The slate: its deeds by its way, and the marks that are raised on it."""

import unittest

from floatforge.order import compared
from floatforge.quotients import left_of, over
from floatforge.roots import root
from floatforge.slates import Slate
from floatforge.sums import fused, minus, plus, times, total
from floatforge.texts import read
from floatforge.wholes import whole
from floatforge.widths import width_of
from tests.helpers import (
    NOT_NUMBER_TEXTS, NOT_TEXTS, NOT_WAYS, NOT_WIDTHS, WAYS, WIDTHS, PromiseTest, endless_in, none_in, not_words, sign_of,
    words_to_try,
)

HALF = width_of(5, 10)
LEAST = width_of(2, 1)
MOST = width_of(11, 60)


def deeds_of(slate):
    """Each deed of a slate beside the function that it stands for."""
    width, way = slate.width, slate.way
    return {
        "two": (
            (slate.plus, lambda *words: plus(width, *words, way)), (slate.minus, lambda *words: minus(width, *words, way)),
            (slate.times, lambda *words: times(width, *words, way)), (slate.over, lambda *words: over(width, *words, way)),
            (slate.left_of, lambda *words: left_of(width, *words)), (slate.compared, lambda *words: compared(width, *words)),
        ),
        "one": ((slate.root, lambda word: root(width, word, way)), (slate.whole, lambda word: whole(width, word, way))),
        "three": ((slate.fused, lambda *words: fused(width, *words, way)),),
        "list": ((slate.total, lambda words: total(width, words, way)),),
        "text": ((slate.read, lambda text: read(width, text, way)),),
    }


class New(PromiseTest):
    def test_fields(self):
        slate = Slate(HALF)
        self.assertEqual((slate.raised, slate.way), (0, "even"))
        self.assert_whole(slate.raised)
        for way in WAYS:
            slate = Slate(HALF, way)
            self.assertEqual((slate.raised, slate.way), (0, way))

    def test_what_is_no_way(self):
        for wrong in NOT_WAYS:
            self.assert_refused("NoWay", Slate, HALF, wrong)

    def test_what_is_no_width(self):
        for wrong in NOT_WIDTHS:
            self.assert_refused("NoWidth", Slate, wrong)


class Deeds(PromiseTest):
    def each_deed(self, width, way, words):
        slate = Slate(width, way)
        raised = 0
        for sort, deeds in deeds_of(slate).items():
            for deed, function in deeds:
                for args in self.arguments(sort, words):
                    raised = self.check(slate, deed, function, args, raised)

    def arguments(self, sort, words):
        ahead = words[1:] + words[:1]
        return {
            "one": [(word,) for word in words],
            "two": list(zip(words, ahead)) + list(zip(ahead[::-1], words)),
            "three": list(zip(words, ahead, words[::-1])),
            "list": [([],), (words[:2],), (words[::3],)],
            "text": [("0.1",), ("-7",), ("none",), ("endless",), ("1e999",), ("1e-999",), ("-0",)],
        }[sort]

    def check(self, slate, deed, function, args, raised):
        answer, marks = function(*args)
        done = deed(*args)
        self.assertEqual((type(done), done), (type(answer), answer))
        self.assertEqual(slate.raised, raised | marks)
        self.assert_whole(slate.raised)
        # From time to time all is wiped, so that each mark is seen raised anew.
        if (raised | marks) == 31 or marks in (2, 20):
            self.assertIsNone(slate.wipe())
        return slate.raised

    def test_by_each_way_in_several_widths(self):
        for width in (LEAST, (2, 2), (4, 3), HALF, (8, 23), MOST):
            words = words_to_try(width)
            for way in WAYS:
                self.each_deed(width, way, words if len(words) < 40 else words[::5])

    def test_known_deeds(self):
        slate = Slate(HALF)
        self.assertEqual(slate.plus(0x3C00, 0x4000), 0x4200)
        self.assertEqual(slate.minus(0x3C00, 0x4000), 0xBC00)
        self.assertEqual(slate.times(0x4000, 0x4200), 0x4600)
        self.assertEqual(slate.over(0x4200, 0x4000), 0x3E00)
        self.assertEqual(slate.left_of(0x4500, 0x4200), 0xBC00)
        self.assertEqual(slate.root(0x4400), 0x4000)
        self.assertEqual(slate.whole(0x4200), 0x4200)
        self.assertEqual(slate.fused(0x4000, 0x4200, 0xBC00), 0x4500)
        self.assertEqual(slate.total([0x3C00, 0x4000, 0x4200]), 0x4600)
        self.assertEqual(slate.read("1.5"), 0x3E00)
        self.assertEqual(slate.compared(0x3C00, 0x4000), "less")
        self.assertEqual(slate.raised, 0)

    def test_a_list_handed_in_is_not_changed(self):
        words = [0x3C00, 0x4000]
        Slate(HALF).total(words)
        self.assertEqual(words, [0x3C00, 0x4000])


class Marks(PromiseTest):
    def test_a_mark_stays_raised_until_all_are_wiped(self):
        slate = Slate(HALF)
        slate.over(0x3C00, 0x4200)
        self.assertEqual(slate.raised, 16)
        slate.plus(0x3C00, 0x3C00)
        self.assertEqual(slate.raised, 16)
        slate.over(0x3C00, 0)
        self.assertEqual(slate.raised, 18)
        slate.over(0x3C00, 0)
        self.assertEqual(slate.raised, 18)
        slate.times(0x0001, 0x3800)
        self.assertEqual(slate.raised, 26)
        slate.times(0x7BFF, 0x7BFF)
        self.assertEqual(slate.raised, 30)
        slate.root(0xBC00)
        self.assertEqual(slate.raised, 31)
        self.assertIsNone(slate.wipe())
        self.assertEqual(slate.raised, 0)
        slate.plus(0x3C00, 0x3C00)
        self.assertEqual(slate.raised, 0)

    def test_the_marks_of_comparing(self):
        slate = Slate(HALF)
        self.assertEqual(slate.compared(0x7E00, 0x3C00), "apart")
        self.assertEqual(slate.raised, 0)
        self.assertEqual(slate.compared(0x7C01, 0x3C00), "apart")
        self.assertEqual(slate.raised, 1)
        self.assertEqual(slate.compared(0x3C00, 0x3C00), "same")
        self.assertEqual(slate.raised, 1)

    def test_two_slates_beside_each_other(self):
        one, other = Slate(HALF), Slate(HALF, "up")
        one.root(0xBC00)
        self.assertEqual((one.raised, other.raised), (1, 0))
        other.over(0x3C00, 0)
        self.assertEqual((one.raised, other.raised), (1, 2))
        one.wipe()
        self.assertEqual((one.raised, other.raised), (0, 2))
        one.turn_to("down")
        self.assertEqual((one.way, other.way), ("down", "up"))
        self.assertEqual((one.over(0x3C00, 0x4200), other.over(0x3C00, 0x4200)), (0x3555, 0x3556))


class TurnedToAWay(PromiseTest):
    def test_another_way(self):
        slate = Slate(HALF)
        answers = []
        for way in WAYS:
            self.assertIsNone(slate.turn_to(way))
            self.assertEqual(slate.way, way)
            answers.append((slate.plus(0x6800, 0x3C00), slate.read("-2049"), slate.whole(0xC100)))
        self.assertEqual(answers, [(0x6800, 0xE800, 0xC000), (0x6801, 0xE801, 0xC200), (0x6800, 0xE800, 0xC000),
                                   (0x6801, 0xE800, 0xC000), (0x6800, 0xE801, 0xC200)])

    def test_the_marks_stay(self):
        slate = Slate(HALF)
        slate.over(0x3C00, 0)
        slate.turn_to("up")
        self.assertEqual((slate.raised, slate.way), (2, "up"))
        slate.wipe()
        self.assertEqual((slate.raised, slate.way), (0, "up"))

    def test_what_is_no_way(self):
        slate = Slate(HALF, "down")
        slate.over(0x3C00, 0)
        for wrong in NOT_WAYS:
            self.assert_refused("NoWay", slate.turn_to, wrong)
            self.assertEqual((slate.raised, slate.way), (2, "down"))


class Refused(PromiseTest):
    def test_what_is_no_word_changes_nothing(self):
        for width in WIDTHS:
            slate = Slate(width, "up")
            slate.over(1, 0)
            for wrong in not_words(width):
                for fine in (0, endless_in(width) + 1, none_in(width)):
                    for deed, function in deeds_of(slate)["two"]:
                        self.assert_refused("NoWord", deed, wrong, fine)
                        self.assert_refused("NoWord", deed, fine, wrong)
                for deed, function in deeds_of(slate)["one"]:
                    self.assert_refused("NoWord", deed, wrong)
                self.assert_refused("NoWord", slate.fused, wrong, 0, 0)
                self.assert_refused("NoWord", slate.fused, 0, wrong, 0)
                self.assert_refused("NoWord", slate.fused, 0, 0, wrong)
                self.assert_refused("NoWord", slate.total, [0, wrong])
                self.assert_refused("NoWord", slate.total, [endless_in(width) + 1, sign_of(width), wrong])
                self.assertEqual((slate.raised, slate.way), (2, "up"))

    def test_what_writes_nothing_changes_nothing(self):
        slate = Slate(HALF, "in")
        slate.over(0x3C00, 0)
        for wrong in NOT_NUMBER_TEXTS + NOT_TEXTS:
            self.assert_refused("NoText", slate.read, wrong)
            self.assertEqual((slate.raised, slate.way), (2, "in"))


if __name__ == "__main__":
    unittest.main()

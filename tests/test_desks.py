"""[47] The desk: rows told to it, its answers, names and refusals."""

import unittest

from floatforge.desks import Desk
from floatforge.marks import marks_named
from floatforge.order import compared
from floatforge.quotients import left_of, over
from floatforge.roots import root
from floatforge.sums import fused, minus, plus, times, total
from floatforge.texts import exact_text, read, shortest
from floatforge.wholes import whole
from floatforge.widths import width_of
from floatforge.words import bits_of, kind_of, turned
from tests.helpers import (
    NOT_NUMBER_TEXTS, NOT_WAYS, NOT_WIDTHS, WAYS, WIDTHS, PromiseTest, is_none, none_in, numbers_of, words_to_try,
)

HALF = width_of(5, 10)
LEAST = width_of(2, 1)
MOST = width_of(11, 60)

ALL_ROWS = (
    "keep NEW TEXT", "plus NEW ONE OTHER", "minus NEW ONE OTHER", "times NEW ONE OTHER", "over NEW ONE OTHER",
    "left NEW ONE OTHER", "root NEW ONE", "whole NEW ONE", "turn NEW ONE", "fused NEW ONE OTHER THIRD", "total NEW ONE",
    "total NEW ONE OTHER THIRD", "drop NAME", "way WAY", "wipe", "marks", "show NAME", "exact NAME", "bits NAME", "kind NAME",
    "order ONE OTHER",
)
FINE = {"NEW": "n", "TEXT": "7", "ONE": "x", "OTHER": "y", "THIRD": "z", "NAME": "x", "WAY": "up"}
NAMES = ("ONE", "OTHER", "THIRD", "NAME")

NO_NAMES = ("", "A", "X", "xY", "x1", "1", "x_", "_", "x-y", "-", "ninelette", "abcdefghi", "\n", "x\n", "\u00e4", "x.", "Keep",
            "none!", "x\ty")


def filled(form, changes):
    """A row of a form, with other words at some of its places."""
    words = form.split(" ")
    return " ".join([words[0]] + [changes.get(word, FINE[word]) for word in words[1:]])


class DeskTest(PromiseTest):
    def said(self, desk, *pairs):
        """Rows and the answers that they have to get, one behind the other."""
        for row, answer in pairs:
            told = desk.say(row)
            self.assertIs(type(told), str)
            self.assertEqual(told, answer, row)

    def desk_of(self, width=HALF, x="3", y="-1.5", z="0.1"):
        desk = Desk(width)
        for name, text in (("x", x), ("y", y), ("z", z)):
            desk.say(f"keep {name} {text}")
        desk.say("wipe")
        return desk

    def state(self, desk, names=("x", "y", "z", "n")):
        """All that a desk can be asked for, without a change."""
        told = [desk.say("marks"), desk.slate.way, desk.slate.raised]
        for name in names:
            try:
                told.append(desk.say("bits " + name))
            except ValueError:
                told.append(None)
        return told


class Rows(DeskTest):
    def test_a_desk_told_from_first_to_last(self):
        self.said(
            Desk(HALF),
            ("marks", "clean"), ("keep a 1", "clean"), ("keep b 3", "clean"), ("over c a b", "near"), ("show c", "3.333e-1"),
            ("exact c", "0.333251953125"), ("bits c", "0011010101010101"), ("kind c", "plain"), ("marks", "near"),
            ("times d c b", "near"), ("order d a", "same"), ("minus e d a", "clean"), ("show e", "0"), ("kind e", "nought"),
            ("over f a e", "pole"), ("show f", "endless"), ("marks", "pole near"), ("wipe", "ok"), ("marks", "clean"),
            ("times g f e", "wrong"), ("show g", "none"), ("kind g", "still"), ("marks", "wrong"), ("way up", "ok"),
            ("over c a b", "near"), ("show c", "3.335e-1"), ("marks", "wrong near"), ("drop c", "ok"), ("keep c -0", "clean"),
            ("bits c", "1000000000000000"), ("exact c", "-0"), ("turn c a", "clean"), ("exact c", "-1"), ("root h c", "wrong"),
        )

    def test_keep(self):
        self.said(
            self.desk_of(), ("keep n 0.1", "near"), ("exact n", "0.0999755859375"), ("keep n none", "clean"), ("show n", "none"),
            ("keep n -endless", "clean"), ("show n", "-endless"), ("keep n endless", "clean"), ("show n", "endless"),
            ("keep n 1e999", "great near"), ("show n", "endless"), ("keep n 1e-999", "small near"), ("exact n", "0"),
            ("keep n -1e-999", "small near"), ("exact n", "-0"), ("keep n 007", "clean"), ("exact n", "7"),
            ("keep n " + "0" * 1200, "clean"), ("exact n", "0"),
        )

    def test_of_two_names(self):
        self.said(
            self.desk_of(), ("plus n x y", "clean"), ("exact n", "1.5"), ("minus n x y", "clean"), ("exact n", "4.5"),
            ("times n x y", "clean"), ("exact n", "-4.5"), ("over n x y", "clean"), ("exact n", "-2"), ("left n x y", "clean"),
            ("exact n", "0"), ("left n y x", "clean"), ("exact n", "-1.5"), ("plus n x z", "near"), ("minus x x x", "clean"),
            ("exact x", "0"), ("over n x x", "wrong"), ("over n y x", "pole"), ("exact n", "-endless"),
        )

    def test_of_one_name(self):
        self.said(
            self.desk_of(), ("root n x", "near"), ("show n", "1.732e0"), ("whole n y", "near"), ("exact n", "-2"), ("turn n y", "clean"),
            ("exact n", "1.5"), ("root n y", "wrong"), ("exact n", "none"), ("whole n x", "clean"), ("turn n n", "clean"),
            ("exact n", "-3"), ("whole n z", "near"), ("exact n", "0"),
        )

    def test_turned_nones_keep_their_bits_and_raise_nothing(self):
        self.said(
            self.desk_of(x="none"), ("bits x", "0111111000000000"), ("turn n x", "clean"), ("bits n", "1111111000000000"),
            ("turn n n", "clean"), ("bits n", "0111111000000000"), ("keep n -endless", "clean"), ("turn n n", "clean"),
            ("bits n", "0111110000000000"), ("marks", "clean"),
        )

    def test_fused_and_total(self):
        self.said(
            self.desk_of(x="1.0009765625", y="-1.001953125", z="0"), ("times n x x", "near"), ("plus n n y", "clean"), ("exact n", "0"),
            ("fused n x x y", "clean"), ("exact n", "0.00000095367431640625"), ("total n x", "clean"), ("exact n", "1.0009765625"),
            ("total n x y", "clean"), ("total n x y z", "clean"), ("exact n", "-0.0009765625"), ("total n x x x x x x", "near"),
            ("total x x x x", "near"), ("total n z z", "clean"), ("exact n", "0"),
        )

    def test_a_total_of_many_names(self):
        desk = self.desk_of()
        self.said(desk, ("total n" + " x" * 300, "clean"), ("exact n", "900"))

    def test_order_raises_its_marks(self):
        desk = self.desk_of(z="none")
        self.said(desk, ("order x y", "more"), ("order y x", "less"), ("order x x", "same"), ("order x z", "apart"), ("marks", "clean"))
        # A loud word can't be read of a text, so it is put where the desk keeps its words.
        desk.kept["z"] = 0x7C01
        self.said(desk, ("kind z", "loud"), ("order x z", "apart"), ("marks", "wrong"), ("wipe", "ok"), ("plus n z x", "wrong"))

    def test_the_marks_of_a_row_alone_and_of_all(self):
        self.said(
            self.desk_of(), ("over n x z", "near"), ("plus n x x", "clean"), ("marks", "near"), ("root n y", "wrong"),
            ("marks", "wrong near"), ("plus n x x", "clean"), ("marks", "wrong near"), ("wipe", "ok"), ("marks", "clean"),
            ("keep n 1e9", "great near"), ("marks", "great near"),
        )

    def test_by_each_way(self):
        rows = (("keep n 2049", 0), ("keep n -2049", 1), ("over n x z", 2), ("whole n y", 3))
        for way in WAYS:
            desk = self.desk_of()
            desk.say("way " + way)
            y, z = read(HALF, "-1.5")[0], read(HALF, "0.1")[0]
            held = [read(HALF, "2049", way), read(HALF, "-2049", way), over(HALF, read(HALF, "3")[0], z, way), whole(HALF, y, way)]
            for row, place in rows:
                self.said(desk, (row, marks_named(held[place][1])), ("exact n", exact_text(HALF, held[place][0])))

    def test_the_way_is_even_at_first(self):
        desk = Desk(HALF)
        self.said(desk, ("keep n 2049", "near"), ("exact n", "2048"), ("keep n 2051", "near"), ("exact n", "2052"))
        self.assertEqual(desk.slate.way, "even")

    def test_all_deeds_in_several_widths(self):
        two = {"plus": plus, "minus": minus, "times": times, "over": over}
        for width in (LEAST, (2, 2), (4, 3), HALF, MOST):
            numbers = [word for word in words_to_try(width) if not is_none(width, word)][::3]
            for way in WAYS:
                desk = Desk(width)
                desk.say("way " + way)
                for one, other in zip(numbers, numbers[::-1] + numbers):
                    desk.say("keep x " + exact_text(width, one))
                    desk.say("keep y " + exact_text(width, other))
                    desk.say("keep z none")
                    for deed, function in two.items():
                        self.check_row(desk, width, f"{deed} n x y", function(width, one, other, way))
                    self.check_row(desk, width, "left n x y", left_of(width, one, other))
                    self.check_row(desk, width, "root n x", root(width, one, way))
                    self.check_row(desk, width, "whole n x", whole(width, one, way))
                    self.check_row(desk, width, "turn n x", (turned(width, one), 0))
                    self.check_row(desk, width, "fused n x y x", fused(width, one, other, one, way))
                    self.check_row(desk, width, "total n x y y", total(width, [one, other, other], way))
                    self.check_row(desk, width, "total n x z", (none_in(width), 0))
                    self.said(desk, ("order x y", compared(width, one, other)[0]))

    def check_row(self, desk, width, row, answer):
        word, marks = answer
        self.said(
            desk, (row, marks_named(marks)), ("show n", shortest(width, word)), ("exact n", exact_text(width, word)),
            ("bits n", bits_of(width, word).replace(" ", "")), ("kind n", kind_of(width, word)),
        )

    def test_each_width_has_its_desk(self):
        for width in WIDTHS:
            for word in numbers_of(width)[::9]:
                desk = Desk(width)
                self.said(desk, ("keep a " + shortest(width, word), desk.say("keep b " + shortest(width, word))))
                self.said(desk, ("bits a", bits_of(width, word).replace(" ", "")))


class Names(DeskTest):
    def test_names_of_one_to_eight_letters_like_the_words_of_rows(self):
        for name in ("a", "z", "ab", "zz", "eightlet", "abcdefgh", "keep", "plus", "minus", "times", "over", "left", "root", "whole",
                     "turn", "fused", "total", "drop", "way", "wipe", "marks", "show", "exact", "bits", "kind", "order", "none",
                     "endless", "even", "up", "in", "clean", "ok", "self", "e"):
            desk = self.desk_of()
            self.said(desk, (f"keep {name} 5", "clean"), (f"exact {name}", "5"), (f"plus {name} {name} {name}", "clean"),
                      (f"show {name}", "1e1"), (f"order {name} x", "more"), (f"drop {name}", "ok"))
            self.assert_refused("NoName", desk.say, "show " + name)

    def test_a_name_kept_again(self):
        self.said(self.desk_of(), ("keep n 1", "clean"), ("keep n 2", "clean"), ("exact n", "2"), ("plus n n n", "clean"),
                  ("exact n", "4"), ("turn n n", "clean"), ("exact n", "-4"))

    def test_a_name_dropped_and_asked_again(self):
        desk = self.desk_of()
        self.said(desk, ("drop x", "ok"))
        for row in ("show x", "exact x", "bits x", "kind x", "drop x", "order x y", "order y x", "plus n x y", "plus n y x", "turn n x"):
            self.assert_refused("NoName", desk.say, row)
        self.said(desk, ("exact y", "-1.5"), ("keep x 8", "clean"), ("exact x", "8"))

    def test_what_is_no_name_at_each_place(self):
        for form in ALL_ROWS:
            for place in form.split(" ")[1:]:
                if place in NAMES + ("NEW",):
                    for wrong in NO_NAMES:
                        self.check_refused("NoName", filled(form, {place: wrong}))

    def test_a_name_by_which_nothing_is_kept(self):
        for form in ALL_ROWS:
            for place in form.split(" ")[1:]:
                if place in NAMES:
                    for wrong in ("q", "n", "eightlet", "keep"):
                        self.check_refused("NoName", filled(form, {place: wrong}))

    def check_refused(self, name, row):
        desk = self.desk_of()
        desk.say("over n x z")
        desk.say("drop n")
        before = self.state(desk)
        self.assert_refused(name, desk.say, row)
        self.assertEqual(self.state(desk), before)

    def test_two_desks_beside_each_other(self):
        one, other = Desk(HALF), Desk(HALF)
        one.say("keep a 1")
        self.assert_refused("NoName", other.say, "show a")
        other.say("keep a 2")
        one.say("way up")
        other.say("keep b 0.1")
        self.said(one, ("exact a", "1"), ("marks", "clean"), ("keep b 0.1", "near"), ("exact b", "0.10003662109375"))
        self.said(other, ("exact a", "2"), ("marks", "near"), ("exact b", "0.0999755859375"), ("wipe", "ok"))
        self.said(one, ("marks", "near"))


class Refused(DeskTest):
    def check(self, name, *rows):
        for row in rows:
            desk = self.desk_of()
            desk.say("keep n 1e9")
            desk.say("way down")
            before = self.state(desk)
            self.assert_refused(name, desk.say, row)
            self.assertEqual(self.state(desk), before)

    def test_rows_that_are_none(self):
        self.check(
            "NoRow", "", " ", "  ", "hello", "x", "Keep n 1", "KEEP n 1", "keepn 1", "keep", "ok", "clean", "dots n x y", "scaled n x",
            "read n 1", "left_of n x y", "compared x y", "turn_to up", "plus", "+ n x y", "n = 1", "keep\tn\t1", "keep\nn\n1", "wipe\n",
            "marks\n", "\nmarks", " marks", " wipe", " keep n 1", "even", "way\nup", "1", "none", "Show x", "show\nx", "moved n x",
        )

    def test_too_few_and_too_many_words(self):
        for form in ALL_ROWS:
            words = filled(form, {}).split(" ")
            for count in range(1, len(words)):
                if not (words[0] == "total" and count >= 3):
                    self.check("NoRow", " ".join(words[:count]))
            if words[0] != "total":
                self.check("NoRow", " ".join(words + ["x"]), " ".join(words) + " ", " ".join(words) + "  ", " ".join(words + ["x", "y"]))
            self.check("NoRow", " " + " ".join(words), "  " + " ".join(words))

    def test_words_without_signs(self):
        # Two blanks, or one at an end, make a word without signs: it counts, but it is no name, no text and no way.
        self.check("NoRow", "marks ", "wipe ", "show  x", "plus n x  y", "keep n  7", "way  up", "order x  y", "drop  x")
        self.check("NoName", "show ", "exact ", "bits ", "kind ", "drop ", "keep  7", "plus n x ", "plus n  y", "plus  x y", "turn n ",
                   "turn  x", "order x ", "order  x", "total n x ", "total n  x", "total n ", "total  x", "total n x  y", "fused n x y ")
        self.check("NoText", "keep n ")
        self.check("NoWay", "way ")

    def test_what_is_no_text(self):
        for wrong in (None, True, False, 0, 1, -1, [], ["wipe"], ["keep", "n", "1"], (), ("wipe",), {}, {"wipe": 1}, {"wipe"}, b"wipe",
                      1.0, object()):
            self.check("NoRow", wrong)

    def test_texts_that_write_nothing(self):
        for wrong in NOT_NUMBER_TEXTS + ("1" * 1201,):
            if " " not in wrong:
                self.check("NoText", "keep n " + wrong)

    def test_ways_that_are_none(self):
        for wrong in NOT_WAYS:
            if isinstance(wrong, str) and " " not in wrong:
                self.check("NoWay", "way " + wrong)
        self.check("NoWay", "way Up", "way x", "way none")

    def test_two_at_once_the_first_from_the_left_is_told(self):
        self.check("NoName", "keep N 1..2", "keep ninelette 1x", "keep  ", "keep 1 ", "keep N 1" + "0" * 1200)
        self.check("NoText", "keep n 1..2", "keep q x")
        self.check("NoRow", "keep N 1 2", "plus N", "way no way", "hello N", "keep N", "plus N q")
        self.check("NoName", "plus N q Q", "plus n q Q", "plus n Q q", "fused n x q Q", "total n x q Q", "order q Q", "plus N x y")

    def test_what_is_refused_keeps_nothing_anew(self):
        desk = self.desk_of()
        for row in ("keep q 1..2", "plus q x w", "total q x w", "root q w", "keep q none!", "fused q x y w"):
            with self.assertRaises(ValueError):
                desk.say(row)
        self.assert_refused("NoName", desk.say, "show q")
        self.said(desk, ("marks", "clean"))

    def test_what_is_no_width(self):
        for wrong in NOT_WIDTHS:
            self.assert_refused("NoWidth", Desk, wrong)


if __name__ == "__main__":
    unittest.main()

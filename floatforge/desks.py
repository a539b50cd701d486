"""Desks: words kept by names, and rows of text that tell what is to be done with them."""

from floatforge.errors import NoName, NoRow
from floatforge.marks import marks_named
from floatforge.slates import Slate
from floatforge.texts import exact_text, shortest
from floatforge.words import bits_of, kind_of, turned

# How many words a row has, by its first one; a total has as many or more.
LENGTHS = {
    "keep": 3, "plus": 4, "minus": 4, "times": 4, "over": 4, "left": 4, "root": 3, "whole": 3, "turn": 3, "fused": 5,
    "total": 3, "drop": 2, "way": 2, "wipe": 1, "marks": 1, "show": 2, "exact": 2, "bits": 2, "kind": 2, "order": 3,
}
# The rows that keep a word by a name.
MAKING = ("keep", "plus", "minus", "times", "over", "left", "root", "whole", "turn", "fused", "total")
MOST_LETTERS = 8


def words_of_row(row):
    if not isinstance(row, str):
        raise NoRow("a row is a text")
    words = row.split(" ")
    length = LENGTHS.get(words[0])
    if length is None:
        raise NoRow("a row begins with the word for what is to be done")
    if len(words) < length or (len(words) > length and words[0] != "total"):
        raise NoRow("a row has just the words that belong to its first one")
    return words


def check_name(name):
    if not 1 <= len(name) <= MOST_LETTERS or not all(["a" <= sign <= "z" for sign in name]):
        raise NoName(f"a name is one to {MOST_LETTERS} letters from a to z")


def done(slate, deed, words):
    if deed == "total":
        return slate.total(words)
    if deed == "fused":
        return slate.fused(words[0], words[1], words[2])
    if deed == "root":
        return slate.root(words[0])
    if deed == "whole":
        return slate.whole(words[0])
    if deed == "turn":
        return turned(slate.width, words[0])
    return done_to_two(slate, deed, words[0], words[1])


def done_to_two(slate, deed, one, other):
    if deed == "plus":
        return slate.plus(one, other)
    if deed == "minus":
        return slate.minus(one, other)
    if deed == "times":
        return slate.times(one, other)
    if deed == "over":
        return slate.over(one, other)
    return slate.left_of(one, other)


def told(width, deed, word):
    if deed == "show":
        return shortest(width, word)
    if deed == "exact":
        return exact_text(width, word)
    if deed == "bits":
        return bits_of(width, word).replace(" ", "")
    return kind_of(width, word)


class Desk:
    def __init__(self, width):
        self.width = width
        self.slate = Slate(width)
        self.kept = {}

    def say(self, row):
        words = words_of_row(row)
        deed = words[0]
        if deed in MAKING:
            return self.make(deed, words[1], words[2:])
        if deed == "marks":
            return marks_named(self.slate.raised)
        if deed in ("drop", "way", "wipe"):
            self.change(words)
            return "ok"
        found = self.words_kept(words[1:])
        if deed == "order":
            return self.slate.compared(found[0], found[1])
        return told(self.width, deed, found[0])

    def words_kept(self, names):
        for name in names:
            # What is no name is never kept, so it needs no look of its own.
            if name not in self.kept:
                raise NoName("nothing is kept by this name")
        return [self.kept[name] for name in names]

    def make(self, deed, new, behind):
        check_name(new)
        # A slate for this row alone tells the row's own marks.
        own = Slate(self.width, self.slate.way)
        word = own.read(behind[0]) if deed == "keep" else done(own, deed, self.words_kept(behind))
        self.kept[new] = self.slate.noted((word, own.raised))
        return marks_named(own.raised)

    def change(self, words):
        if words[0] == "wipe":
            self.slate.wipe()
        elif words[0] == "way":
            self.slate.turn_to(words[1])
        else:
            self.words_kept([words[1]])
            self.kept.pop(words[1])

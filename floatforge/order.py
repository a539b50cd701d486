"""Order: ranks of words, the words beside a word, words compared and put in order."""

from floatforge.errors import NoNumber
from floatforge.marks import WRONG
from floatforge.widths import check_width, is_within
from floatforge.words import cut, endless_of, kind_of, signed, unsigned, with_sign


def rank_of(width, word):
    if kind_of(width, word) in ("still", "loud"):
        return None
    rank = unsigned(width, word)
    return -rank if cut(width, word)[0] == 1 else rank


def word_at(width, rank):
    most = endless_of(width)
    if not is_within(rank, -most, most):
        raise NoNumber("a rank is a whole number, from that of endless with sign 1 to that of endless")
    return with_sign(width, abs(rank), rank < 0)


def after(width, word):
    return stepped(width, word, 1)


def ahead(width, word):
    return stepped(width, word, -1)


def stepped(width, word, step):
    rank = rank_of(width, word)
    if rank is None or rank == step * endless_of(width):
        return word
    if rank + step == 0:
        return signed(width, 0, word)
    return word_at(width, rank + step)


def compared(width, one, other):
    first = rank_of(width, one)
    second = rank_of(width, other)
    if first is None or second is None:
        loud = "loud" in (kind_of(width, one), kind_of(width, other))
        return ("apart", WRONG if loud else 0)
    if first == second:
        return ("same", 0)
    return ("less" if first < second else "more", 0)


def in_order(width, words):
    check_width(width)
    nones = [word for word in words if rank_of(width, word) is None]
    others = [word for word in words if rank_of(width, word) is not None]
    # Only the noughts share a rank, and the one with sign 1 is the greater whole number.
    return sorted(others, key=lambda word: (rank_of(width, word), -word)) + nones

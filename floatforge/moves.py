"""Moves: words scaled by a power of 2, and words moved to another width."""

from floatforge.exacts import multiplied
from floatforge.terms import gathered, term_of
from floatforge.widths import check_width


def scaled(width, word, j, way="even"):
    term = term_of(width, word)
    return gathered(width, [(term[0], term[1], multiplied(term[2], (1, j)))], way)


def holds_width(width, other):
    check_width(width)
    check_width(other)
    return width[0] >= other[0] and width[1] >= other[1]


def moved(width, other, word, way="even"):
    check_width(other)
    return gathered(other, [term_of(width, word)], way)

"""Roots: the whole root of a whole number, and the root of a word."""

from floatforge.amounts import height_of
from floatforge.errors import NoNumber
from floatforge.marks import WRONG
from floatforge.rounding import settled, step_power
from floatforge.terms import is_nought, nones_told, term_of
from floatforge.ways import way_of
from floatforge.widths import is_whole
from floatforge.words import none_of


def whole_root(n):
    if not is_whole(n) or n < 0:
        raise NoNumber("a whole root is told of a whole number from 0 on")
    if n == 0:
        return 0
    # From a guess that is not below the root, each better one is less, until the root is reached.
    guess = 1 << ((n.bit_length() + 1) // 2)
    better = (guess + n // guess) // 2
    while better < guess:
        guess = better
        better = (guess + n // guess) // 2
    return guess


def root(width, word, way="even"):
    term = term_of(width, word)
    chosen = way_of(way)
    nones = nones_told(width, [term])
    if nones is not None:
        return nones
    if is_nought(term):
        return (word, 0)
    if term[1]:
        return (none_of(width), WRONG)
    if term[0] == "endless":
        return (word, 0)
    return number_root(width, chosen, term[2])


def number_root(width, chosen, number):
    height = height_of(number[0], number[1], 1) // 2
    place = root_in_steps(number, step_power(width, height))
    return settled(width, chosen, False, height, place)


def root_in_steps(number, power):
    # The square of a step is finer than the lowest bit of any number of the width, so the shift is above nought.
    square = number[0] << (number[1] - 2 * power)
    m = whole_root(square)
    rest = square - m * m
    if rest == 0:
        return (m, 0)
    # Just half a step above m has a square with a fourth left over, which no whole number has.
    return (m, 1 if rest <= m else 3)

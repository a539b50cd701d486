"""Wholes: words taken to whole numbers, and whole numbers taken to words."""

from floatforge.amounts import in_steps
from floatforge.exacts import exact, value_of
from floatforge.marks import NEAR
from floatforge.rounding import steps_taken, taken
from floatforge.terms import gathered, term_of
from floatforge.ways import way_of
from floatforge.words import kind_of, signed


def whole(width, word, way="even"):
    if kind_of(width, word) not in ("small", "plain"):
        # One term alone is gathered to itself, a none to the none.
        return gathered(width, [term_of(width, word)], way)
    value = value_of(width, word)
    number = number_taken(value, way_of(way))
    marks = 0 if exact(number, 0) == value else NEAR
    if number == 0:
        return (signed(width, 0, word), marks)
    answer = of_number(width, number, way)
    return (answer[0], answer[1] | marks)


def number_taken(value, chosen):
    below = value[0] < 0
    steps = steps_taken(chosen, in_steps(value[0], value[1], 1, 0), below)
    return -steps if below else steps


def number_of(width, word, way="even"):
    value = value_of(width, word)
    return number_taken(value, way_of(way))


def of_number(width, n, way="even"):
    return taken(width, n, 0, 1, way)

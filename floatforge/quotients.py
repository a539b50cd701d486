"""Quotients: a word over another one, and what is left of a word by another one."""

from floatforge.amounts import in_steps
from floatforge.exacts import added, exact, fitting, multiplied
from floatforge.marks import POLE, WRONG
from floatforge.rounding import steps_taken, taken
from floatforge.terms import is_nought, nones_told, term_of
from floatforge.ways import Even, way_of
from floatforge.words import endless_of, none_of, signed, with_sign


def over(width, one, other, way="even"):
    first = term_of(width, one)
    second = term_of(width, other)
    way_of(way)
    nones = nones_told(width, [first, second])
    if nones is not None:
        return nones
    both_endless = first[0] == "endless" and second[0] == "endless"
    if both_endless or (is_nought(first) and is_nought(second)):
        return (none_of(width), WRONG)
    return quotient_of(width, first, second, way)


def quotient_of(width, first, second, way):
    below = first[1] != second[1]
    if first[0] == "endless":
        return (with_sign(width, endless_of(width), below), 0)
    if second[0] == "endless" or is_nought(first):
        return (with_sign(width, 0, below), 0)
    if is_nought(second):
        return (with_sign(width, endless_of(width), below), POLE)
    n = first[2][0]
    return taken(width, -n if below else n, first[2][1] - second[2][1], second[2][0], way)


def left_of(width, one, other):
    first = term_of(width, one)
    second = term_of(width, other)
    nones = nones_told(width, [first, second])
    if nones is not None:
        return nones
    if first[0] == "endless" or is_nought(second):
        return (none_of(width), WRONG)
    if second[0] == "endless":
        return (one, 0)
    rest = rest_of(first[2], second[2])
    if rest[0] == 0:
        return (signed(width, 0, one), 0)
    # Reckoned of the sizes: the second one's sign only turns the multiple, and the first one's turns what is left.
    return (fitting(width, (-rest[0], rest[1]) if first[1] else rest), 0)


def rest_of(one, other):
    place = in_steps(one[0], one[1] - other[1], other[0], 0)
    multiple = steps_taken(Even(), place, False)
    return added(one, multiplied(exact(-multiple, 0), other))

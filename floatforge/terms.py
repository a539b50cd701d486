"""Terms: tuples (kind, below, size) of words and of products, and how they are gathered to an answer."""

from floatforge.exacts import added, multiplied, value_of
from floatforge.marks import WRONG
from floatforge.rounding import taken
from floatforge.ways import way_of
from floatforge.widths import check_width
from floatforge.words import cut, endless_of, kind_of, none_of, unsigned, with_sign

NOUGHT = (0, 0)
LOUD_TERM = ("wrong", False, (0, 0))
STILL_TERM = ("none", False, (0, 0))


def term_of(width, word):
    kind = kind_of(width, word)
    if kind == "loud":
        return LOUD_TERM
    if kind == "still":
        return STILL_TERM
    below = cut(width, word)[0] == 1
    if kind == "endless":
        return ("endless", below, NOUGHT)
    return ("number", below, value_of(width, unsigned(width, word)))


def is_nought(term):
    return term[0] == "number" and term[2] == NOUGHT


def product(width, one, other):
    first = term_of(width, one)
    second = term_of(width, other)
    kinds = (first[0], second[0])
    if "wrong" in kinds:
        return LOUD_TERM
    if "none" in kinds:
        return STILL_TERM
    below = first[1] != second[1]
    if "endless" not in kinds:
        return ("number", below, multiplied(first[2], second[2]))
    if is_nought(first) or is_nought(second):
        return LOUD_TERM
    return ("endless", below, NOUGHT)


def gathered(width, terms, way="even"):
    check_width(width)
    way_of(way)
    nones = nones_told(width, terms)
    if nones is not None:
        return nones
    ends = [term[1] for term in terms if term[0] == "endless"]
    if ends:
        return ends_told(width, ends)
    number = summed(terms)
    if number == NOUGHT:
        return (with_sign(width, 0, is_nought_below(terms, way)), 0)
    return taken(width, number[0], number[1], 1, way)


def nones_told(width, terms):
    # The answer that nones among the terms force, None where there are none of them.
    kinds = [term[0] for term in terms]
    if "wrong" in kinds:
        return (none_of(width), WRONG)
    if "none" in kinds:
        return (none_of(width), 0)
    return None


def ends_told(width, ends):
    if any(ends) and not all(ends):
        return (none_of(width), WRONG)
    return (with_sign(width, endless_of(width), all(ends)), 0)


def summed(terms):
    number = NOUGHT
    for term in terms:
        size = term[2]
        number = added(number, (-size[0], size[1]) if term[1] else size)
    return number


def is_nought_below(terms, way):
    signs = [term[1] for term in terms]
    if all([is_nought(term) for term in terms]):
        if not any(signs):
            return False
        if all(signs):
            return True
    return way == "down"

"""Widths: tuples (E, F), how many bits of a word are its exponent and its fraction."""

from floatforge.errors import NoWidth

LEAST_E = 2
MOST_E = 11
LEAST_F = 1
MOST_F = 60


def is_whole(value):
    # True and False are ints to Python, but they are no whole numbers here.
    return isinstance(value, int) and not isinstance(value, bool)


def is_within(value, low, high):
    return is_whole(value) and low <= value <= high


def width_of(e, f):
    if not is_within(e, LEAST_E, MOST_E):
        raise NoWidth(f"the exponent's bits are a whole number from {LEAST_E} to {MOST_E}")
    if not is_within(f, LEAST_F, MOST_F):
        raise NoWidth(f"the fraction's bits are a whole number from {LEAST_F} to {MOST_F}")
    return (e, f)


def check_width(width):
    if not isinstance(width, tuple) or len(width) != 2:
        raise NoWidth("a width is a tuple of two whole numbers")
    width_of(width[0], width[1])


def many_words(width):
    check_width(width)
    return 1 << (1 + width[0] + width[1])


def bias_of(width):
    check_width(width)
    return (1 << (width[0] - 1)) - 1


def least_power(width):
    return 1 - bias_of(width) - width[1]

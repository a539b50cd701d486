"""Figures: the parts of a text that writes a number, and powers of ten."""

from floatforge.errors import NoText

MOST_SIGNS = 1200
MOST_POWER_FIGURES = 3


def parts_of(text):
    if not isinstance(text, str) or len(text) > MOST_SIGNS:
        raise NoText(f"a number is written as a text of at most {MOST_SIGNS} signs")
    below = text.startswith("-")
    halves = (text[1:] if below else text).partition("e")
    rows = halves[0].partition(".")
    check_figures(rows[0])
    if rows[1] == ".":
        check_figures(rows[2])
    power = power_written(halves[2]) if halves[1] == "e" else 0
    return (below, int(rows[0] + rows[2]), power - len(rows[2]))


def check_figures(text):
    # Python's own reading of figures would take signs of other scripts and marks between them, too.
    if text == "" or not all([sign in "0123456789" for sign in text]):
        raise NoText("a number is written with one or more figures from 0 to 9 at each place that needs them")


def power_written(text):
    below = text.startswith("-")
    figures = text[1:] if below else text
    check_figures(figures)
    if len(figures) > MOST_POWER_FIGURES:
        raise NoText(f"a power is written with at most {MOST_POWER_FIGURES} figures")
    return -int(figures) if below else int(figures)


def ten_power(count):
    # By squares, as a factor of ten at a time is slow for great powers.
    power = 1
    square = 10
    while count > 0:
        if count % 2 == 1:
            power = power * square
        square = square * square
        count = count // 2
    return power

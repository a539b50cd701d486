"""Rounding: an amount taken to a word by a way, with its marks."""

from floatforge.amounts import height_of, in_steps
from floatforge.marks import GREAT, NEAR, SMALL
from floatforge.ways import way_of
from floatforge.widths import bias_of, check_width, least_power
from floatforge.words import endless_of, with_sign


def taken(width, n, k, d, way="even"):
    check_width(width)
    chosen = way_of(way)
    if n == 0:
        return (0, 0)
    height = height_of(n, k, d)
    place = in_steps(n, k, d, step_power(width, height))
    return settled(width, chosen, n < 0, height, place)


def step_power(width, height):
    return max(height - width[1], least_power(width))


def steps_taken(chosen, place, below):
    grown = place[1] != 0 and chosen.grows(place[0] % 2 == 1, place[1], below)
    return place[0] + 1 if grown else place[0]


def settled(width, chosen, below, height, place):
    # By itself, as a root that is no fraction has a height and a place in steps, too.
    endless = endless_of(width)
    above_least = step_power(width, height) - least_power(width)
    # A plain word's steps run over into the exponent by one, which is just where its exponent begins to count;
    # so sizes of 2 to the power bias + 1 or more come to endless or beyond it.
    size = (above_least << width[1]) + steps_taken(chosen, place, below)
    if size < endless:
        return (with_sign(width, size, below), marks_of(width, height, place[1]))
    size = endless if chosen.grows(True, 3, below) else endless - 1
    return (with_sign(width, size, below), GREAT + NEAR)


def marks_of(width, height, side):
    if side == 0:
        return 0
    return NEAR + SMALL if height < 1 - bias_of(width) else NEAR

"""Exact numbers: tuples (n, k) that stand for n times 2 to the power k, n odd, or (0, 0)."""

from floatforge.errors import NoNumber
from floatforge.widths import bias_of, least_power
from floatforge.words import cut, kind_of, turned


def exact(n, k):
    if n == 0:
        return (0, 0)
    # The lowest bit that is 1 is found at once: a loop over the bits would be slow for great numbers.
    spare = (n & -n).bit_length() - 1
    return (n >> spare, k + spare)


def steps_of(number, power):
    # The power is never above the number's own one, so nothing is lost.
    return number[0] << (number[1] - power)


def added(one, other):
    power = min(one[1], other[1])
    return exact(steps_of(one, power) + steps_of(other, power), power)


def multiplied(one, other):
    return exact(one[0] * other[0], one[1] + other[1])


def is_below(one, other):
    power = min(one[1], other[1])
    return steps_of(one, power) < steps_of(other, power)


def value_of(width, word):
    kind = kind_of(width, word)
    if kind not in ("nought", "small", "plain"):
        raise NoNumber("endless and nones have no value")
    parts = cut(width, word)
    steps = parts[2]
    power = least_power(width)
    if kind == "plain":
        steps = steps + (1 << width[1])
        power = power + parts[1] - 1
    return exact(-steps if parts[0] == 1 else steps, power)


def fitting(width, number):
    least = least_power(width)
    if number[0] == 0:
        return 0
    size = abs(number[0])
    height = number[1] + size.bit_length() - 1
    power = max(height - width[1], least)
    # The number's own power is too low where it has a bit too many, and where it is finer than the finest step.
    if number[1] < power or height > bias_of(width):
        return None
    # A plain word's steps run over into the exponent by one, which is just where its exponent begins to count.
    word = ((power - least) << width[1]) + (size << (number[1] - power))
    return turned(width, word) if number[0] < 0 else word

"""Amounts: n times 2 to the power k, over d; told by the three whole numbers n, k, d, with d from 1 on."""

from floatforge.errors import NoNumber
from floatforge.exacts import exact, is_below, multiplied


def as_quotient(n, k, d):
    # Two whole numbers, so that a power below nought needs no fraction.
    return (n << k, d) if k >= 0 else (n, d << -k)


def height_of(n, k, d):
    if n == 0:
        raise NoNumber("nought has no height")
    size = abs(n)
    # The counts of bits tell the height of n over d, or one more than it.
    height = size.bit_length() - d.bit_length()
    parts = as_quotient(size, -height, d)
    if parts[0] < parts[1]:
        height = height - 1
    return height + k


def in_steps(n, k, d, g):
    parts = as_quotient(abs(n), k - g, d)
    m = parts[0] // parts[1]
    twice_the_rest = 2 * (parts[0] - m * parts[1])
    if twice_the_rest == 0:
        return (m, 0)
    if twice_the_rest < parts[1]:
        return (m, 1)
    return (m, 2 if twice_the_rest == parts[1] else 3)


def against(n, k, d, number):
    # Both sides times d, which is above nought, stand to each other as before.
    one = exact(n, k)
    other = multiplied(number, exact(d, 0))
    if one == other:
        return 0
    return -1 if is_below(one, other) else 1

"""Texts: numbers' texts read to words, and words told as texts, exact or as short as can be."""

from floatforge.exacts import value_of
from floatforge.figures import parts_of, ten_power
from floatforge.rounding import taken
from floatforge.ways import way_of
from floatforge.widths import check_width
from floatforge.words import cut, endless_of, kind_of, none_of, unsigned, with_sign


def read(width, text, way="even"):
    check_width(width)
    word = named_word(width, text)
    if word is not None:
        way_of(way)
        return (word, 0)
    parts = parts_of(text)
    if parts[1] == 0:
        way_of(way)
        return (with_sign(width, 0, parts[0]), 0)
    return decimal_taken(width, -parts[1] if parts[0] else parts[1], parts[2], way)


def named_word(width, text):
    if text == "none":
        return none_of(width)
    if text == "endless" or text == "-endless":
        return with_sign(width, endless_of(width), text == "-endless")
    return None


def decimal_taken(width, whole, ten, way):
    if ten < 0:
        return taken(width, whole, 0, ten_power(-ten), way)
    return taken(width, whole * ten_power(ten), 0, 1, way)


def exact_text(width, word):
    kind = kind_of(width, word)
    if kind in ("still", "loud"):
        return "none"
    sign = "-" if cut(width, word)[0] == 1 else ""
    return sign + ("endless" if kind == "endless" else point_text(decimal_of(width, word)))


def decimal_of(width, word):
    # The size of a number is told as a whole number times a power of ten, which is never above nought.
    number = value_of(width, unsigned(width, word))
    power = number[1]
    if power >= 0:
        return (number[0] << power, 0)
    return ((number[0] * ten_power(-power)) >> -power, power)


def point_text(decimal):
    behind = -decimal[1]
    if behind == 0:
        return str(decimal[0])
    figures = str(decimal[0]).zfill(behind + 1)
    return figures[:-behind] + "." + figures[-behind:]


def shortest(width, word):
    if kind_of(width, word) not in ("small", "plain"):
        return exact_text(width, word)
    sign = "-" if cut(width, word)[0] == 1 else ""
    return sign + power_text(fewest_figures(width, unsigned(width, word)))


def fewest_figures(width, word):
    decimal = decimal_of(width, word)
    dropped = len(str(decimal[0])) - 1
    found = None
    # With no figure dropped it is the value itself, so there is an end.
    while found is None:
        found = without_figures(width, word, decimal, dropped)
        dropped = dropped - 1
    return found


def without_figures(width, word, decimal, dropped):
    # Of all numbers with so many figures only those next to the value can be nearest, and either may be read otherwise.
    unit = ten_power(dropped)
    lower = decimal[0] // unit
    # The nearer one goes first, of two equally near ones the lesser.
    lower_first = 2 * (decimal[0] - lower * unit) <= unit
    beside = (lower, lower + 1) if lower_first else (lower + 1, lower)
    ten = decimal[1] + dropped
    for whole in beside:
        if decimal_taken(width, whole, ten, "even")[0] == word:
            return (whole, ten)
    return None


def power_text(decimal):
    figures = str(decimal[0])
    power = decimal[1] + len(figures) - 1
    # One more than a row of nines has noughts behind.
    figures = figures.rstrip("0")
    first = figures[0]
    others = figures[1:]
    return f"{first}.{others}e{power}" if others else f"{first}e{power}"

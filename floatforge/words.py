"""Words: whole numbers whose bits are a sign, an exponent and a fraction."""

from floatforge.errors import NoText, NoWord
from floatforge.widths import check_width, is_within, many_words


def all_ones(count):
    return (1 << count) - 1


def check_word(width, word):
    if not is_within(word, 0, many_words(width) - 1):
        raise NoWord("a word is a whole number from 0 on with no more bits than its width has")


def check_part(part, count):
    if not is_within(part, 0, all_ones(count)):
        raise NoWord(f"this part of a word is a whole number from 0 on of at most {count} bits")


def cut(width, word):
    check_word(width, word)
    sign = word >> (width[0] + width[1])
    exponent = (word >> width[1]) & all_ones(width[0])
    fraction = word & all_ones(width[1])
    return (sign, exponent, fraction)


def joined(width, sign, exponent, fraction):
    check_width(width)
    check_part(sign, 1)
    check_part(exponent, width[0])
    check_part(fraction, width[1])
    return (sign << (width[0] + width[1])) + (exponent << width[1]) + fraction


def kind_of(width, word):
    parts = cut(width, word)
    exponent = parts[1]
    fraction = parts[2]
    if exponent == 0:
        return "nought" if fraction == 0 else "small"
    if exponent < all_ones(width[0]):
        return "plain"
    if fraction == 0:
        return "endless"
    return "still" if fraction >= highest_of_fraction(width) else "loud"


def none_of(width):
    check_width(width)
    return joined(width, 0, all_ones(width[0]), highest_of_fraction(width))


def endless_of(width):
    check_width(width)
    return joined(width, 0, all_ones(width[0]), 0)


def highest_of_fraction(width):
    return 1 << (width[1] - 1)


def sign_bit(width):
    return 1 << (width[0] + width[1])


def turned(width, word):
    check_word(width, word)
    return word ^ sign_bit(width)


def unsigned(width, word):
    check_word(width, word)
    return word & (sign_bit(width) - 1)


def signed(width, word, other):
    check_word(width, other)
    return unsigned(width, word) + (other & sign_bit(width))


def with_sign(width, word, below):
    # For a word with sign 0, which is what is reckoned of a size.
    return turned(width, word) if below else word


def bits_of(width, word):
    parts = cut(width, word)
    return " ".join([bits_told(parts[0], 1), bits_told(parts[1], width[0]), bits_told(parts[2], width[1])])


def bits_told(part, count):
    return "".join(["1" if (part >> place) & 1 else "0" for place in range(count - 1, -1, -1)])


def word_of(width, text):
    check_width(width)
    if not isinstance(text, str):
        raise NoText("the bits of a word are told as a text")
    parts = text.split(" ")
    if [len(part) for part in parts] != [1, width[0], width[1]]:
        raise NoText("a word's bits are told as three parts of the width's lengths with one blank between")
    return joined(width, bits_read(parts[0]), bits_read(parts[1]), bits_read(parts[2]))


def bits_read(bits):
    number = 0
    for bit in bits:
        # Python's own reading of figures would take signs of other scripts, too.
        if bit not in ("0", "1"):
            raise NoText("a bit is told as 0 or 1")
        number = 2 * number + (1 if bit == "1" else 0)
    return number

"""Spans: tuples (low, high) of words that hold the exact numbers from low's value to high's."""

from floatforge.amounts import against
from floatforge.errors import NoSpan
from floatforge.exacts import value_of
from floatforge.order import rank_of, word_at
from floatforge.quotients import over
from floatforge.rounding import taken
from floatforge.roots import root
from floatforge.sums import minus, plus, times
from floatforge.words import check_word, endless_of, kind_of, turned


def span_from(width, low, high):
    lowest = rank_of(width, low)
    highest = rank_of(width, high)
    most = endless_of(width)
    if lowest is None or highest is None or lowest > highest or lowest == most or highest == -most:
        raise NoSpan("a span goes from a number or endless with sign 1 up to a number or endless")
    # Back from the rank, either nought is the word 0.
    return (word_at(width, lowest), word_at(width, highest))


def span_of(width, n, k, d):
    return span_from(width, taken(width, n, k, d, "down")[0], taken(width, n, k, d, "up")[0])


def checked_spans(width, spans):
    for span in spans:
        if not isinstance(span, tuple) or len(span) != 2:
            raise NoSpan("a span is a tuple of two words")
    # What is no word is told ahead of what is no span, in whichever of them it stands.
    for span in spans:
        check_word(width, span[0])
        check_word(width, span[1])
    return [span_from(width, span[0], span[1]) for span in spans]


def holds(width, one, n, k, d):
    ends = checked_spans(width, [one])[0]
    not_below = is_endless(width, ends[0]) or against(n, k, d, value_of(width, ends[0])) >= 0
    not_above = is_endless(width, ends[1]) or against(n, k, d, value_of(width, ends[1])) <= 0
    return not_below and not_above


def is_endless(width, word):
    return kind_of(width, word) == "endless"


def spanned(width, lows, highs):
    lowest = min([rank_of(width, word) for word in lows])
    highest = max([rank_of(width, word) for word in highs])
    return (word_at(width, lowest), word_at(width, highest))


def span_plus(width, one, other):
    spans = checked_spans(width, [one, other])
    low = plus(width, spans[0][0], spans[1][0], "down")[0]
    high = plus(width, spans[0][1], spans[1][1], "up")[0]
    return spanned(width, [low], [high])


def span_minus(width, one, other):
    spans = checked_spans(width, [one, other])
    low = minus(width, spans[0][0], spans[1][1], "down")[0]
    high = minus(width, spans[0][1], spans[1][0], "up")[0]
    return spanned(width, [low], [high])


def pairs_of_ends(one, other):
    return [(one[0], other[0]), (one[0], other[1]), (one[1], other[0]), (one[1], other[1])]


def span_times(width, one, other):
    spans = checked_spans(width, [one, other])
    pairs = pairs_of_ends(spans[0], spans[1])
    lows = [end_times(width, pair, "down") for pair in pairs]
    highs = [end_times(width, pair, "up") for pair in pairs]
    return spanned(width, lows, highs)


def end_times(width, pair, way):
    # No amount is endless, so a nought times an end that is endless stands for noughts alone.
    if pair[0] == 0 or pair[1] == 0:
        return 0
    return times(width, pair[0], pair[1], way)[0]


def span_over(width, one, other):
    spans = checked_spans(width, [one, other])
    if rank_of(width, spans[1][0]) <= 0 <= rank_of(width, spans[1][1]):
        return (turned(width, endless_of(width)), endless_of(width))
    pairs = pairs_of_ends(spans[0], spans[1])
    lows = [end_over(width, pair, "down") for pair in pairs]
    highs = [end_over(width, pair, "up") for pair in pairs]
    return spanned(width, lows, highs)


def end_over(width, pair, way):
    if is_endless(width, pair[0]) and is_endless(width, pair[1]):
        return 0
    return over(width, pair[0], pair[1], way)[0]


def span_root(width, one):
    ends = checked_spans(width, [one])[0]
    if rank_of(width, ends[0]) < 0:
        raise NoSpan("a span that begins below nought has no root")
    return spanned(width, [root(width, ends[0], "down")[0]], [root(width, ends[1], "up")[0]])

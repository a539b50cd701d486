"""Sums: words added, taken from one another and multiplied, each answer a tuple (word, marks)."""

from floatforge.errors import NoMatch
from floatforge.terms import gathered, product, term_of
from floatforge.words import turned


def plus(width, one, other, way="even"):
    return gathered(width, [term_of(width, one), term_of(width, other)], way)


def minus(width, one, other, way="even"):
    return plus(width, one, turned(width, other), way)


def times(width, one, other, way="even"):
    return gathered(width, [product(width, one, other)], way)


def fused(width, one, other, third, way="even"):
    return gathered(width, [product(width, one, other), term_of(width, third)], way)


def total(width, words, way="even"):
    return gathered(width, [term_of(width, word) for word in words], way)


def dots(width, ones, others, way="even"):
    if len(ones) != len(others):
        raise NoMatch("lists of words are multiplied place by place, so they have the same length")
    return gathered(width, [product(width, ones[place], others[place]) for place in range(len(ones))], way)

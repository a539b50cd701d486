"""Slates: deeds by one way, with the marks of all of them kept."""

from floatforge.order import compared
from floatforge.quotients import left_of, over
from floatforge.roots import root
from floatforge.sums import fused, minus, plus, times, total
from floatforge.texts import read
from floatforge.ways import way_of
from floatforge.wholes import whole
from floatforge.widths import check_width


class Slate:
    def __init__(self, width, way="even"):
        check_width(width)
        way_of(way)
        self.width = width
        self.way = way
        self.raised = 0

    def noted(self, answer):
        self.raised = self.raised | answer[1]
        return answer[0]

    def plus(self, one, other):
        return self.noted(plus(self.width, one, other, self.way))

    def minus(self, one, other):
        return self.noted(minus(self.width, one, other, self.way))

    def times(self, one, other):
        return self.noted(times(self.width, one, other, self.way))

    def over(self, one, other):
        return self.noted(over(self.width, one, other, self.way))

    def left_of(self, one, other):
        return self.noted(left_of(self.width, one, other))

    def root(self, word):
        return self.noted(root(self.width, word, self.way))

    def whole(self, word):
        return self.noted(whole(self.width, word, self.way))

    def fused(self, one, other, third):
        return self.noted(fused(self.width, one, other, third, self.way))

    def total(self, words):
        return self.noted(total(self.width, words, self.way))

    def read(self, text):
        return self.noted(read(self.width, text, self.way))

    def compared(self, one, other):
        return self.noted(compared(self.width, one, other))

    def turn_to(self, way):
        way_of(way)
        self.way = way

    def wipe(self):
        self.raised = 0

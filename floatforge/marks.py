"""Marks: what happened on the way to an answer, told as the sum of those that are raised."""

WRONG = 1
POLE = 2
GREAT = 4
SMALL = 8
NEAR = 16

# The names at the places of their bits.
NAMES = ("wrong", "pole", "great", "small", "near")


def marks_named(marks):
    raised = [NAMES[place] for place in range(len(NAMES)) if (marks >> place) & 1]
    return " ".join(raised) if raised else "clean"

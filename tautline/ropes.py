"""Ropes joined, and ropes the other way. Neither looks at pegs."""

from tautline.errors import NoEnds


def joined(one, other):
    if one[-1] != other[0]:
        raise NoEnds("the second rope does not begin where the first ends")
    return one + other[1:]


def back(rope):
    return list(reversed(rope))

"""Rows of gates as they are passed from the end, and on a board that is mirrored."""


def from_end(row):
    return [(x, low, high, -way) for x, low, high, way in reversed(row)]


def mirrored(row):
    return [(-x, low, high, -way) for x, low, high, way in row]


def upside_down(row):
    return [(x, minus(high), minus(low), way) for x, low, high, way in row]


def minus(height):
    return None if height is None else -height

"""Pegs, the upright lines they stand on, and the ropes that may lie among them.

A board is what lines tells of pegs; a stretch is a tuple of two corners of a rope.
"""

from tautline.errors import NoPegs, NoRope


def lines(pegs):
    if len(set(pegs)) < len(pegs):
        raise NoPegs("two pegs are alike")
    heights_by_x = {}
    for x, y in sorted(pegs):
        heights_by_x.setdefault(x, []).append(y)
    return list(heights_by_x.items())


def looked(pegs, rope):
    board = lines(pegs)
    if len(rope) < 2:
        raise NoRope(0)
    # A corner on a peg line is told ahead of any stretch through a peg, so all corners go first.
    refuse_corners(board, rope)
    refuse_stretches(board, rope)


def refuse_corners(board, rope):
    taken = [line[0] for line in board]
    for place, corner in enumerate(rope):
        if corner[0] in taken:
            raise NoRope(place)


def refuse_stretches(board, rope):
    for place, stretch in enumerate(stretches(rope)):
        if goes_through_peg(board, stretch):
            raise NoRope(place)


def stretches(rope):
    return list(zip(rope, rope[1:]))


# Only lines between the corners count: no corner is on a line any more when this is asked.
def goes_through_peg(board, stretch):
    for x, heights in crossed(board, stretch):
        if any([side_of(stretch, (x, y)) == 0 for y in heights]):
            return True
    return False


# In the order of going, so that a row of gates can be read off; none for upright stretches.
def crossed(board, stretch):
    start = stretch[0][0]
    end = stretch[1][0]
    if start < end:
        return [line for line in board if start < line[0] < end]
    return [line for line in reversed(board) if end < line[0] < start]


# More than 0 for a peg above the stretch, less than 0 for one below, 0 for one on it.
def side_of(stretch, peg):
    start = stretch[0]
    end = stretch[1]
    across = end[0] - start[0]
    # Products in the place of a quotient, so that nothing is rounded.
    turn = across * (peg[1] - start[1]) - (end[1] - start[1]) * (peg[0] - start[0])
    # What turns to the left lies above who goes to the right, but below who goes to the left.
    return turn if across > 0 else -turn

"""The gates that ropes go through, and the ropes that can be moved into one another."""

from tautline.boards import crossed, lines, looked, side_of, stretches
from tautline.errors import NoEnds


def row_of(pegs, rope):
    looked(pegs, rope)
    board = lines(pegs)
    row = []
    for stretch in stretches(rope):
        row.extend([gate_of(line, stretch) for line in crossed(board, stretch)])
    return row


def gate_of(line, stretch):
    x = line[0]
    below = [y for y in line[1] if side_of(stretch, (x, y)) < 0]
    above = [y for y in line[1] if side_of(stretch, (x, y)) > 0]
    way = 1 if stretch[0][0] < x else -1
    return (x, max(below, default=None), min(above, default=None), way)


def shortened(row):
    kept = []
    # What is kept has no to and fro in it, so only its last gate can go out with the next one.
    for gate in row:
        if kept and to_and_fro(kept[-1], gate):
            kept.pop()
        else:
            kept.append(gate)
    return kept


def to_and_fro(gate, later):
    return gate[:3] == later[:3] and gate[3] != later[3]


def alike(pegs, one, other):
    # Both rows are asked for ahead of the ends, so that pegs and ropes are refused first.
    row = shortened(row_of(pegs, one))
    other_row = shortened(row_of(pegs, other))
    if one[0] != other[0] or one[-1] != other[-1]:
        raise NoEnds("the ropes have unlike ends")
    return row == other_row

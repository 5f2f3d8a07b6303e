"""The taut rope of a rope, and the rounds of a closed one."""

from tautline.errors import NoEnds
from tautline.gates import row_of, shortened
from tautline.pulling import pulled


def taut(pegs, rope):
    row = shortened(row_of(pegs, rope))
    return pulled(rope[0], row, rope[-1])


def rounds(pegs, rope):
    # The row is asked for ahead of the ends, so that pegs and ropes are refused first.
    row = row_of(pegs, rope)
    if rope[0] != rope[-1]:
        raise NoEnds("the rope is not closed")
    return [rounds_of(peg, row) for peg in pegs]


def rounds_of(peg, row):
    return sum([-gate[3] for gate in row if lies_above(gate, peg)])


def lies_above(gate, peg):
    return gate[0] == peg[0] and gate[1] is not None and gate[1] >= peg[1]

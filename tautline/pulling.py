"""Rows of gates pulled tight.

A run is a part of a row that is passed one way. Where the row turns about, both gates lie on one peg
line, so whatever else the rope does, it goes along that line from the nearer peg of the one to the
nearer peg of the other. At these pegs it comes apart into runs that are pulled each by itself.
"""

from tautline.boards import crossed, side_of


def pulled(start, row, end):
    way = [start] + unrepeated(touched(start, row, end)) + [end]
    bends = [middle for one, middle, other in zip(way, way[1:], way[2:]) if not straight_on(one, middle, other)]
    return [start] + bends + [end]


# The pegs between start and end, some of them twice on end or where the rope goes straight on.
def touched(start, row, end):
    spots = [start]
    run = []
    for gate in row:
        if run and run[-1][3] != gate[3]:
            turn = turning_pegs(run[-1], gate)
            spots.extend(run_pulled(spots[-1], run, turn[0]))
            spots.append(turn[1])
            run = []
        run.append(gate)
    spots.extend(run_pulled(spots[-1], run, end))
    return spots[1:-1]


# Pegs that may lie between these two are straight on the way, so they need not be known.
def turning_pegs(gate, later):
    x = gate[0]
    if lies_below(gate, later):
        return ((x, gate[2]), (x, later[1]))
    return ((x, gate[1]), (x, later[2]))


def lies_below(gate, later):
    return gate[2] is not None and later[1] is not None and gate[2] <= later[1]


# What the rope touches behind its start, up to its goal.
def run_pulled(start, run, goal):
    reached = [start]
    goals = [goal]
    while goals:
        peg = farthest_beyond((reached[-1], goals[-1]), run)
        if peg is None:
            reached.append(goals.pop())
        else:
            goals.append(peg)
    return reached[1:]


# The peg that the stretch passes farthest on the wrong side, or None. The rope touches it: seen from the
# stretch, no peg asks it to go farther out than this one, and it goes no farther than it is asked.
def farthest_beyond(stretch, run):
    farthest = None
    most = 0
    # A gate begins with the x of its line, so that gates are sorted out as lines are.
    for gate in crossed(run, stretch):
        for beyond, peg in pegs_beyond(stretch, gate):
            if beyond > most:
                farthest = peg
                most = beyond
    return farthest


# With each peg how far the stretch is beyond it. Of one stretch these can be set side by side, since
# side_of takes the true heights times the same number.
def pegs_beyond(stretch, gate):
    told = []
    if gate[1] is not None:
        low = (gate[0], gate[1])
        told.append((side_of(stretch, low), low))
    if gate[2] is not None:
        high = (gate[0], gate[2])
        told.append((-side_of(stretch, high), high))
    return told


# Ahead of straight_on, which needs spots apart: where runs meet, a peg is told by each of them.
def unrepeated(pegs):
    kept = []
    for peg in pegs:
        if not kept or kept[-1] != peg:
            kept.append(peg)
    return kept


def straight_on(one, middle, other):
    across = middle[0] - one[0]
    up = middle[1] - one[1]
    next_across = other[0] - middle[0]
    next_up = other[1] - middle[1]
    # The second half keeps what goes straight back.
    return across * next_up == up * next_across and across * next_across + up * next_up > 0

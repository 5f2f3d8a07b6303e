"""Point 11 read as it stands: whether a list of spots is what a row pulled tight is told as.

Nothing here knows how the program finds its list. The places of the gates are sought among all spots of
the list where a gate can be met; a place within a stretch, or at a bend with what was taken there so far.
"""

from fractions import Fraction

LEFT, RIGHT = 1, -1


def turn(a, b, c):
    """More than 0 where the way from a over b to c turns to the left."""
    return (b[0] - a[0]) * (c[1] - b[1]) - (b[1] - a[1]) * (c[0] - b[0])


def onwards(a, b, c):
    return (b[0] - a[0]) * (c[0] - b[0]) + (b[1] - a[1]) * (c[1] - b[1])


def hand_of(gate, peg):
    """The hand at which a gate has a peg as its end, or None where the peg is no end of it."""
    x, low, high, way = gate
    if peg == (x, high):
        return LEFT if way == 1 else RIGHT
    if peg == (x, low):
        return RIGHT if way == 1 else LEFT
    return None


def lies_on(spot, gate):
    x, low, high, _ = gate
    return spot[0] == x and (low is None or low <= spot[1]) and (high is None or spot[1] <= high)


def met_between(a, b, row):
    """Spots strictly between a and b, in their order, enough of them for all places that a row can take there."""
    if a == b:
        return []
    if a[0] == b[0]:
        ends = {y for x, low, high, _ in row if x == a[0] for y in (low, high) if y is not None}
        if not ends:
            return []
        heights = sorted({y for y in ends if min(a[1], b[1]) < y < max(a[1], b[1])} | {a[1], b[1]})
        halves = [Fraction(one + other, 2) for one, other in zip(heights, heights[1:])]
        heights = sorted(set(heights[1:-1]) | set(halves), reverse=a[1] > b[1])
        return [(a[0], y) for y in heights]
    xs = sorted({gate[0] for gate in row if min(a[0], b[0]) < gate[0] < max(a[0], b[0])}, reverse=a[0] > b[0])
    return [(x, a[1] + Fraction((b[1] - a[1]) * (x - a[0]), b[0] - a[0])) for x in xs]


class Walk:
    """All ways to take the gates of a row along a list.

    A state is (k, taken): k is the index of a spot met. At a bend, taken is (hand, lone): the hand at which all
    gates taken there have it, and the only gate taken there, or None where there are several.
    """

    def __init__(self, row, told):
        self.told = told
        self.met = []
        self.bend_at = {}
        for k, (a, b) in enumerate(zip(told, told[1:])):
            if k > 0:
                self.bend_at[len(self.met)] = k
                self.met.append(a)
            self.met.extend(met_between(a, b, row))

    def may_leave(self, state):
        k, taken = state
        if taken is None or taken[1] is None:
            return True
        hand, gate = taken
        before, bend, behind = self.told[self.bend_at[k] - 1:self.bend_at[k] + 2]
        if turn(before, bend, behind) * hand > 0:
            return True
        along = before[0] == bend[0] == behind[0]
        gate_is_above = bend[1] == gate[1]
        came_from_above = before[1] > bend[1]
        return along and onwards(before, bend, behind) < 0 and gate_is_above != came_from_above

    def take(self, state, gate):
        """The states behind the taking of one more gate."""
        k, taken = state
        if taken is not None and hand_of(gate, self.met[k]) == taken[0]:
            yield k, (taken[0], None)
        if taken is None and k >= 0 and lies_on(self.met[k], gate):
            yield k, None
        if not self.may_leave(state):
            return
        for later in range(k + 1, len(self.met)):
            if later in self.bend_at:
                hand = hand_of(gate, self.met[later])
                if hand is not None:
                    yield later, (hand, gate)
                # At each bend a place is taken, so none lies ahead of it untaken.
                return
            if lies_on(self.met[later], gate):
                yield later, None

    def can_end(self, state):
        return self.may_leave(state) and not any(k > state[0] for k in self.bend_at)


def bends_alone(told):
    for before, middle, behind in zip(told, told[1:], told[2:]):
        if middle in (before, behind):
            return False
        if turn(before, middle, behind) == 0 and onwards(before, middle, behind) > 0:
            return False
    return True


def keeps_dashes(start, row, end, told):
    if len(told) < 2 or told[0] != start or told[-1] != end or not bends_alone(told):
        return False
    walk = Walk(row, told)
    states = {(-1, None)}
    for gate in row:
        states = {behind for state in states for behind in walk.take(state, gate)}
    return any(walk.can_end(state) for state in states)


def all_lists(start, row, end):
    """Every list that keeps the dashes. Each bend takes a gate, so there are no more bends than gates."""
    pegs = sorted({(x, y) for x, low, high, _ in row for y in (low, high) if y is not None})
    found = []
    begun = [[]]
    for _ in range(len(row) + 1):
        found.extend(bends for bends in begun if keeps_dashes(start, row, end, [start] + bends + [end]))
        begun = [bends + [peg] for bends in begun for peg in pegs if not bends or bends[-1] != peg]
        begun = [bends for bends in begun if bends_alone([start] + bends)]
    return [[start] + bends + [end] for bends in found]

"""Boards, ropes and rows drawn by chance, the same ones each time.

Pegs have even numbers, corners odd ones: so no corner lies on a peg line, and every gate has room for a rope.
"""

import random


def draw_pegs(chance, most, wide, tall):
    spots = [(2 * x, 2 * y) for x in range(wide) for y in range(tall)]
    return chance.sample(spots, chance.randint(1, min(most, len(spots))))


def gates_by_line(pegs):
    by_line = []
    for x in sorted({x for x, _ in pegs}):
        heights = [None] + sorted(y for peg_x, y in pegs if peg_x == x) + [None]
        by_line.append([(x, low, high) for low, high in zip(heights, heights[1:])])
    return by_line


def draw_row(chance, pegs, length):
    """A shortened row, and the slab where it begins and the one where it ends (0 is left of all lines)."""
    by_line = gates_by_line(pegs)
    begin = slab = chance.randint(0, len(by_line))
    row = []
    for _ in range(length):
        choice = [gate + (1,) for gate in by_line[slab]] if slab < len(by_line) else []
        choice += [gate + (-1,) for gate in by_line[slab - 1]] if slab > 0 else []
        gate = chance.choice([gate for gate in choice if not row or gate[:3] != row[-1][:3] or gate[3] == row[-1][3]])
        row.append(gate)
        slab += gate[3]
    return row, begin, slab


def draw_spot(chance, pegs, slab):
    xs = sorted({x for x, _ in pegs})
    low = xs[slab - 1] if slab > 0 else xs[0] - 6
    high = xs[slab] if slab < len(xs) else xs[-1] + 6
    heights = [y for _, y in pegs]
    return (chance.randrange(low + 1, high, 2), chance.randint(min(heights) - 3, max(heights) + 3))


def rope_through(start, row, end):
    """A rope whose row is this one, gate for gate."""
    rope = [start]
    for x, low, high, way in row:
        height = high - 1 if low is None else low + 1
        rope += [(x - way, height), (x + way, height)]
    return rope + [end]


def draw(chance, most=12, wide=6, tall=6, length=12):
    """Pegs, a start, a row and an end."""
    pegs = draw_pegs(chance, most, wide, tall)
    row, begin, slab = draw_row(chance, pegs, chance.randint(0, length))
    start = draw_spot(chance, pegs, begin)
    end = draw_spot(chance, pegs, slab)
    if begin == slab and chance.random() < 0.2:
        end = start
    return pegs, start, row, end


def many(seed, count, **sizes):
    chance = random.Random(seed)
    return [draw(chance, **sizes) for _ in range(count)]

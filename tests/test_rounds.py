"""Points 2 and 13: how often closed ropes go round pegs."""

import copy
import itertools
import unittest

from tautline.errors import NoEnds, NoPegs, NoRope
from tautline.ropes import back, joined
from tautline.taut import rounds
from tests.drawn import many, rope_through

BIG = 10 ** 40
HUGE = 10 ** 5000

LEFT = [(-1, -1), (1, -1), (1, 1), (-1, 1), (-1, -1)]


def rounds_by_height(pegs, rope):
    """The rounds reckoned another way: by the stretches that go up or down on the right of each peg."""
    told = []
    for px, py in pegs:
        count = 0
        for (x0, y0), (x1, y1) in zip(rope, rope[1:]):
            turn = (x1 - x0) * (py - y0) - (y1 - y0) * (px - x0)
            if y0 <= py < y1 and turn > 0:
                count += 1
            if y1 <= py < y0 and turn < 0:
                count -= 1
        told.append(count)
    return told


class Rounds(unittest.TestCase):
    def tells(self, pegs, rope, told):
        kept = copy.deepcopy((pegs, rope))
        self.assertEqual(rounds(pegs, rope), told)
        self.assertEqual((pegs, rope), kept)
        self.assertEqual(rounds(pegs, back(rope)), [-count for count in told])
        self.assertEqual(rounds(pegs, joined(rope, rope)), [2 * count for count in told])
        self.assertEqual(rounds(pegs, joined(rope, back(rope))), [0] * len(pegs))

    def test_no_pegs(self):
        self.tells([], LEFT, [])
        self.tells([], [(0, 0), (0, 0)], [])

    def test_no_round(self):
        self.tells([(0, 0)], [(1, 1), (1, 1)], [0])
        self.tells([(0, 0)], [(1, 1), (-1, 1), (-1, 2), (1, 1)], [0])
        self.tells([(0, 0)], [(1, -1), (-1, -1), (-1, -2), (1, -1)], [0])

    def test_one_round(self):
        self.tells([(0, 0)], LEFT, [1])
        self.tells([(0, 0)], LEFT[::-1], [-1])

    def test_several_rounds(self):
        self.tells([(0, 0)], LEFT * 3, [3])
        self.tells([(0, 0)], LEFT[::-1] * 40, [-40])
        self.tells([(0, 0)], LEFT + LEFT[::-1] + LEFT, [1])

    def test_pegs_outside(self):
        pegs = [(5, 0), (0, 5), (0, -5), (-5, 0), (0, 0), (5, 5)]
        self.tells(pegs, LEFT, [0, 0, 0, 0, 1, 0])

    def test_order_of_pegs(self):
        pegs = [(0, 0), (0, 5), (4, 0), (8, 0)]
        wide = [(-1, -1), (5, -1), (5, 1), (1, 2), (1, 7), (-1, 7), (-1, -1)]
        rope = joined(wide, [(-1, -1), (5, -1), (5, 1), (3, 1), (3, -1), (-1, -1)])
        counts = {(0, 0): 1, (0, 5): 1, (4, 0): 2, (8, 0): 0}
        for order in itertools.permutations(pegs):
            self.tells(list(order), rope, [counts[peg] for peg in order])

    def test_pegs_on_one_line(self):
        pegs = [(0, 0), (0, 4)]
        self.tells(pegs, [(-1, -1), (1, -1), (1, 2), (-1, 2), (-1, -1)], [1, 0])
        self.tells(pegs, [(-1, 2), (1, 2), (1, 6), (-1, 6), (-1, 2)], [0, 1])
        self.tells(pegs, [(-1, -1), (1, -1), (1, 6), (-1, 6), (-1, -1)], [1, 1])
        # An eight: to the left round the lower peg, to the right round the upper one.
        self.tells(pegs, [(-1, -1), (1, -1), (1, 1), (-1, 3), (-1, 6), (1, 6), (1, 3), (-1, 1), (-1, -1)], [1, -1])

    def test_heights_at_nought(self):
        self.tells([(0, 0), (0, -4), (0, 4)], [(-1, -9), (1, -9), (1, 9), (-1, 9), (-1, -9)], [1, 1, 1])

    def test_big_numbers(self):
        self.tells([(0, 0), (0, 2)], [(-BIG, -1), (BIG + 1, 1), (-BIG, 1), (-BIG, -1)], [1, 0])
        self.tells([(0, 0), (0, 1)], [(-BIG - 1, -1), (BIG, 1), (-BIG, 3), (-BIG - 1, -1)], [0, 1])

    def test_numbers_of_thousands_of_figures(self):
        rope = [(HUGE - 1, HUGE - 1), (HUGE + 1, HUGE - 1), (HUGE + 1, HUGE + 1), (HUGE - 1, HUGE - 1)]
        self.assertEqual(rounds([(HUGE, HUGE + 1)], rope), [0])
        self.assertEqual(rounds([(HUGE, HUGE - 2)], rope), [0])
        wide = [(-HUGE, -1), (HUGE + 1, 1), (-HUGE, 1), (-HUGE, -1)]
        self.assertEqual(rounds([(0, 0), (0, 1 - HUGE)], wide), [1, 0])

    def test_drawn_ropes(self):
        for wide, tall in ((1, 6), (6, 1), (3, 3), (6, 6)):
            for pegs, start, row, end in many(f"rounds {wide} {tall}", 150, wide=wide, tall=tall, length=14):
                rope = rope_through(start, row, end)
                for closed in (joined(rope, back(rope)), rope + [rope[0]]):
                    try:
                        told = rounds(pegs, closed)
                    except NoRope:
                        continue
                    self.assertEqual(told, rounds_by_height(pegs, closed))

    def test_what_is_told_is_the_askers_own(self):
        for pegs in ([], [(0, 0)], [(0, 0), (4, 4)]):
            kept = copy.deepcopy((pegs, LEFT))
            told = rounds(pegs, LEFT)
            self.assertIs(type(told), list)
            self.assertTrue(all(type(count) is int for count in told))
            again = list(told)
            told.append(9)
            told[0] = 8
            self.assertEqual(rounds(pegs, LEFT), again)
            self.assertEqual((pegs, LEFT), kept)


class Refusals(unittest.TestCase):
    def test_pegs_first(self):
        for rope in ([], [(1, 1)], [(0, 1), (1, 1)], [(-1, 0), (1, 0)], [(1, 1), (2, 2)], LEFT):
            with self.assertRaises(NoPegs):
                rounds([(0, 0), (3, 3), (0, 0)], rope)

    def test_then_the_rope_whether_closed_or_not(self):
        for rope, place in (
            ([], 0),
            ([(1, 1)], 0),
            ([(0, 9), (1, 1)], 0),
            ([(0, 9), (1, 1), (0, 9)], 0),
            ([(1, 1), (1, 2), (0, 9)], 2),
            ([(1, 1), (0, 9), (1, 1)], 1),
            ([(1, 1), (1, 0), (-1, 0)], 1),
            ([(1, 0), (-1, 0), (1, 0)], 0),
            ([(1, 0), (-1, 0), (0, 9)], 2),
        ):
            with self.assertRaises(NoRope) as told:
                rounds([(0, 0)], rope)
            self.assertEqual(told.exception.place, place)

    def test_then_a_rope_that_is_not_closed(self):
        for rope in (
            [(1, 1), (2, 2)],
            [(1, 1), (1, 2)],
            [(1, 1), (2, 1)],
            [(1, 1), (-1, 1), (-1, -1), (1, -1)],
            LEFT + [(-1, -2)],
            [(BIG, 1), (1, 1), (BIG + 1, 1)],
        ):
            kept = list(rope)
            for pegs in ([], [(0, 0)]):
                with self.assertRaises(NoEnds):
                    rounds(pegs, rope)
            self.assertEqual(rope, kept)


if __name__ == "__main__":
    unittest.main()

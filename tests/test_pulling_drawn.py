"""Points 3 and 11 over many drawn boards: the two dashes, the one list that keeps them, and pictures of a board."""

import random
import unittest

from tautline.boards import looked
from tautline.gates import row_of, shortened
from tautline.pulling import pulled
from tests.dashes import all_lists, keeps_dashes
from tests.drawn import draw_row, draw_spot, many, rope_through
from tests.pictures import from_end, mirrored, upside_down

SMALL = [(1, 4), (4, 1), (2, 2), (2, 3), (3, 2), (3, 3)]


class TheCheckItself(unittest.TestCase):
    """Lists that are wrong are told from the right one."""

    ROW = [(0, 0, None, 1), (4, None, -3, 1)]
    RIGHT = [(-2, -4), (0, 0), (4, -3), (6, 0)]

    def holds(self, row, told):
        return keeps_dashes(told[0], row, told[-1], told)

    def test_right_list(self):
        self.assertTrue(self.holds(self.ROW, self.RIGHT))
        self.assertTrue(self.holds([], [(1, 1), (1, 1)]))

    def test_bend_left_out_or_put_in(self):
        self.assertFalse(self.holds(self.ROW, [(-2, -4), (6, 0)]))
        self.assertFalse(self.holds(self.ROW, [(-2, -4), (0, 0), (6, 0)]))
        self.assertFalse(self.holds(self.ROW, [(-2, -4), (0, 0), (0, 0), (4, -3), (6, 0)]))
        self.assertFalse(self.holds(self.ROW, [(-2, -4), (0, 0), (0, 4), (4, -3), (6, 0)]))
        self.assertFalse(self.holds([], [(1, 1)]))

    def test_straight_on(self):
        self.assertTrue(self.holds(self.ROW[:1], [(-2, 0), (2, 0)]))
        self.assertFalse(self.holds(self.ROW[:1], [(-2, 0), (0, 0), (2, 0)]))

    def test_wrong_hand(self):
        self.assertFalse(self.holds(self.ROW[:1], [(-2, 1), (0, 0), (2, 1)]))
        self.assertTrue(self.holds(self.ROW[:1], [(-2, -1), (0, 0), (2, -1)]))

    def test_wrong_side_of_a_peg(self):
        self.assertFalse(self.holds([(0, None, 0, 1)], [(-2, 1), (2, 1)]))
        self.assertTrue(self.holds([(0, None, 0, 1)], [(-2, -1), (2, -1)]))

    def test_straight_back(self):
        row = [(0, None, 0, 1), (0, 4, None, -1), (0, None, 0, 1)]
        self.assertTrue(self.holds(row, [(-2, 0), (0, 0), (0, 4), (0, 0), (2, 0)]))
        self.assertFalse(self.holds(row, [(-2, 0), (0, 0), (2, 0)]))
        # Coming from the side on which the gate lies, the rope would only hang slack over the peg.
        slack = [(0, 8, None, 1), (0, 0, 4, -1), (0, 8, None, 1)]
        self.assertFalse(self.holds(slack, [(-2, 8), (0, 8), (0, 0), (0, 8), (2, 8)]))
        self.assertTrue(self.holds(slack, [(-2, 8), (0, 8), (0, 4), (0, 8), (2, 8)]))

    def test_other_ends(self):
        self.assertFalse(keeps_dashes((-2, -4), self.ROW, (6, 1), self.RIGHT))
        self.assertFalse(keeps_dashes((-2, -5), self.ROW, (6, 0), self.RIGHT))


class OneList(unittest.TestCase):
    def test_it_is_the_only_one_that_keeps_the_dashes(self):
        for wide, tall in SMALL:
            for pegs, start, row, end in many(f"one {wide} {tall}", 250, most=4, wide=wide, tall=tall, length=5):
                told = pulled(start, row, end)
                self.assertEqual(all_lists(start, row, end), [told], (pegs, row))


class TwoDashes(unittest.TestCase):
    def holds(self, pegs, start, row, end):
        told = pulled(start, row, end)
        self.assertTrue(keeps_dashes(start, row, end, told), (pegs, start, row, end, told))

    def test_small_boards(self):
        for wide, tall in SMALL:
            for drawn in many(f"small {wide} {tall}", 200, wide=wide, tall=tall, length=20):
                self.holds(*drawn)

    def test_boards_of_twelve_pegs(self):
        for drawn in many("twelve", 300, wide=5, tall=5, length=40):
            self.holds(*drawn)
        for drawn in many("wide", 150, wide=60, tall=40, length=40):
            self.holds(*drawn)

    def test_all_pegs_on_one_line_and_at_one_height(self):
        for drawn in many("line", 150, wide=1, tall=14, length=30):
            self.holds(*drawn)
        for drawn in many("height", 150, wide=14, tall=1, length=60):
            self.holds(*drawn)

    def test_long_rows(self):
        for drawn in many("long", 12, wide=4, tall=4, length=1500):
            self.holds(*drawn)

    def test_rows_drawn_and_then_wound(self):
        chance = random.Random("wound")
        for pegs, start, row, end in many("wound", 12, wide=5, tall=5, length=0):
            xs = sorted({x for x, _ in pegs})
            heights = {x: sorted(y for peg_x, y in pegs if peg_x == x) for x in xs}
            ring = [(x, None, heights[x][0], 1) for x in xs] + [(x, heights[x][-1], None, -1) for x in reversed(xs)]
            start, end = draw_spot(chance, pegs, 0), draw_spot(chance, pegs, 0)
            self.holds(pegs, start, ring * 150, end)

    def test_numbers_of_thirty_figures(self):
        chance = random.Random("thirty")
        for _ in range(150):
            xs = [2 * chance.randrange(-10 ** 30 // 2, 10 ** 30 // 2) for _ in range(4)]
            pegs = [(chance.choice(xs), 2 * chance.randrange(-10 ** 30 // 2, 10 ** 30 // 2)) for _ in range(12)]
            row, begin, slab = draw_row(chance, pegs, 25)
            self.holds(pegs, draw_spot(chance, pegs, begin), row, draw_spot(chance, pegs, slab))


class Ropes(unittest.TestCase):
    def test_drawn_rows_are_those_of_ropes(self):
        for pegs, start, row, end in many("ropes", 300, wide=5, tall=5, length=20):
            rope = rope_through(start, row, end)
            looked(pegs, rope)
            self.assertEqual(row_of(pegs, rope), row)
            self.assertEqual(shortened(row), row)


class Pictures(unittest.TestCase):
    def same_picture(self, put, row_put):
        for wide, tall in SMALL + [(6, 6), (1, 12), (12, 1)]:
            for _, start, row, end in many(f"pictures {wide} {tall}", 100, wide=wide, tall=tall, length=16):
                told = pulled(put(start), row_put(row), put(end))
                self.assertEqual(told, [put(spot) for spot in pulled(start, row, end)])

    def same_upright(self, put):
        """On a board whose upright lines stay upright, in their order, and on which up stays up."""
        def gate_put(x, low, high, way):
            ends = [None if y is None else put((x, y))[1] for y in (low, high)]
            return (put((x, 0))[0], ends[0], ends[1], way)

        self.same_picture(put, lambda row: [gate_put(*gate) for gate in row])

    def test_from_its_end(self):
        for wide, tall in SMALL + [(6, 6), (1, 12), (12, 1)]:
            for _, start, row, end in many(f"from its end {wide} {tall}", 100, wide=wide, tall=tall, length=16):
                self.assertEqual(pulled(end, from_end(row), start), pulled(start, row, end)[::-1])

    def test_mirrored_left_to_right(self):
        self.same_picture(lambda spot: (-spot[0], spot[1]), mirrored)

    def test_mirrored_top_to_bottom(self):
        self.same_picture(lambda spot: (spot[0], -spot[1]), upside_down)

    def test_aslant(self):
        for times in (1, -1, 3, -7, 10 ** 30 + 1):
            self.same_upright(lambda spot: (spot[0], spot[1] + times * spot[0]))

    def test_moved(self):
        self.same_upright(lambda spot: (spot[0] - 10 ** 30, spot[1] + 10 ** 29))

    def test_stretched(self):
        self.same_upright(lambda spot: (5 * spot[0], spot[1]))
        self.same_upright(lambda spot: (spot[0], 10 ** 30 * spot[1]))


if __name__ == "__main__":
    unittest.main()

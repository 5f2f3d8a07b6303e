"""Points 2, 6, 7, 8 and 9: rows of gates, shortened rows, and ropes that are alike."""

import copy
import itertools
import unittest
from fractions import Fraction

from tautline.errors import NoEnds, NoPegs, NoRope
from tautline.gates import alike, row_of, shortened

BIG = 10 ** 40
HUGE = 10 ** 5000


def row_by_fractions(pegs, rope):
    """The row reckoned another way: from the height at which each stretch meets each line."""
    row = []
    for (x0, y0), (x1, y1) in zip(rope, rope[1:]):
        way = 1 if x0 < x1 else -1
        for x in sorted({peg[0] for peg in pegs}, reverse=way < 0):
            if min(x0, x1) < x < max(x0, x1):
                height = y0 + Fraction((y1 - y0) * (x - x0), x1 - x0)
                low = [peg[1] for peg in pegs if peg[0] == x and peg[1] < height]
                high = [peg[1] for peg in pegs if peg[0] == x and peg[1] > height]
                row.append((x, max(low) if low else None, min(high) if high else None, way))
    return row


class Rows(unittest.TestCase):
    PEGS = [(4, 3), (0, 0), (4, -1), (0, 6), (0, 2), (9, 9)]

    def test_no_pegs(self):
        self.assertEqual(row_of([], [(0, 0), (9, 9), (-5, 2)]), [])

    def test_no_line_passed(self):
        self.assertEqual(row_of(self.PEGS, [(1, 1), (3, -8), (2, 70)]), [])
        self.assertEqual(row_of(self.PEGS, [(-1, 0), (-7, 0), (-1, 0)]), [])
        self.assertEqual(row_of(self.PEGS, [(10, 9), (20, 9)]), [])

    def test_one_peg_to_the_right_and_to_the_left(self):
        self.assertEqual(row_of([(0, 0)], [(-1, 1), (1, 1)]), [(0, 0, None, 1)])
        self.assertEqual(row_of([(0, 0)], [(1, 1), (-1, 1)]), [(0, 0, None, -1)])
        self.assertEqual(row_of([(0, 0)], [(-1, -1), (1, -1)]), [(0, None, 0, 1)])
        self.assertEqual(row_of([(0, 0)], [(1, -1), (-1, -1)]), [(0, None, 0, -1)])

    def test_each_gate_of_a_line(self):
        gates = {-5: (None, 0), 1: (0, 2), 3: (2, 6), 5: (2, 6), 7: (6, None), 99: (6, None)}
        for y, (low, high) in gates.items():
            self.assertEqual(row_of(self.PEGS, [(-1, y), (1, y)]), [(0, low, high, 1)])
            self.assertEqual(row_of(self.PEGS, [(1, y), (-1, y)]), [(0, low, high, -1)])

    def test_several_lines_in_one_stretch(self):
        there = [(0, 0, 2, 1), (4, -1, 3, 1), (9, None, 9, 1)]
        back = [(9, None, 9, -1), (4, -1, 3, -1), (0, 0, 2, -1)]
        self.assertEqual(row_of(self.PEGS, [(-1, 1), (12, 1)]), there)
        self.assertEqual(row_of(self.PEGS, [(12, 1), (-1, 1)]), back)

    def test_order_of_going_over_several_stretches(self):
        rope = [(-1, 1), (5, 1), (5, 5), (2, 5), (2, -5), (10, -5)]
        told = [(0, 0, 2, 1), (4, -1, 3, 1), (4, 3, None, -1), (4, None, -1, 1), (9, None, 9, 1)]
        self.assertEqual(row_of(self.PEGS, rope), told)

    def test_row_is_not_shortened(self):
        rope = [(-1, 1), (1, 1), (-1, 1), (1, 1)]
        told = [(0, 0, 2, 1), (0, 0, 2, -1), (0, 0, 2, 1)]
        self.assertEqual(row_of(self.PEGS, rope), told)

    def test_slanting_stretches(self):
        # At 0 the height is 1, at 4 it is 5, at 9 it is 10.
        there = [(0, 0, 2, 1), (4, 3, None, 1), (9, 9, None, 1)]
        self.assertEqual(row_of(self.PEGS, [(-1, 0), (11, 12)]), there)
        back = [(gate[0], gate[1], gate[2], -1) for gate in reversed(there)]
        self.assertEqual(row_of(self.PEGS, [(11, 12), (-1, 0)]), back)

    def test_line_met_between_whole_heights(self):
        # A third above the lower peg, and a third below the upper one.
        self.assertEqual(row_of([(0, 0), (0, 1)], [(-1, 0), (2, 1)]), [(0, 0, 1, 1)])
        self.assertEqual(row_of([(0, 0), (0, 1)], [(1, 1), (-2, 0)]), [(0, 0, 1, -1)])
        self.assertEqual(row_of([(0, 0), (0, -1)], [(-1, 0), (2, -1)]), [(0, -1, 0, 1)])

    def test_upright_stretches_and_those_of_no_length(self):
        rope = [(-1, 1), (-1, 1), (-1, -4), (-1, 1), (1, 1), (1, 1), (1, 9), (1, 9)]
        self.assertEqual(row_of(self.PEGS, rope), [(0, 0, 2, 1)])
        self.assertEqual(row_of(self.PEGS, [(-1, 1), (-1, 1)]), [])

    def test_big_numbers(self):
        pegs = [(0, 0), (0, 1), (0, BIG)]
        self.assertEqual(row_of(pegs, [(-BIG, -1), (BIG + 1, 1)]), [(0, None, 0, 1)])
        self.assertEqual(row_of(pegs, [(-BIG - 1, -1), (BIG, 1)]), [(0, 0, 1, 1)])
        self.assertEqual(row_of(pegs, [(BIG, 1), (-BIG - 1, -1)]), [(0, 0, 1, -1)])
        self.assertEqual(row_of(pegs, [(-1, BIG), (BIG, BIG + 1)]), [(0, BIG, None, 1)])
        self.assertEqual(row_of([(BIG, 0), (BIG + 2, 0)], [(BIG + 1, 1), (BIG + 3, 1)]), [(BIG + 2, 0, None, 1)])

    def test_numbers_of_thousands_of_figures(self):
        pegs = [(HUGE, HUGE), (HUGE, HUGE + 2)]
        told = row_of(pegs, [(HUGE - 1, HUGE + 1), (HUGE + 1, HUGE + 1)])
        self.assertTrue(told == [(HUGE, HUGE, HUGE + 2, 1)])
        self.assertTrue(row_of([(0, 0)], [(-HUGE, -1), (HUGE + 1, 1)]) == [(0, None, 0, 1)])
        self.assertTrue(row_of([(0, 0)], [(-HUGE - 1, -1), (HUGE, 1)]) == [(0, 0, None, 1)])

    def test_two_hundred_corners_and_twelve_pegs(self):
        pegs = [(10 * x, y) for x in range(4) for y in (-3, 0, 3)]
        rope = [(-5, 1), (35, 2)] * 100
        row = row_of(pegs, rope)
        self.assertEqual(len(row), 199 * 4)
        self.assertEqual(row, row_by_fractions(pegs, rope))

    def test_order_of_pegs_does_not_matter(self):
        rope = [(-1, 1), (5, 1), (5, 5), (2, 5), (2, -5), (10, -5)]
        told = row_of(self.PEGS, rope)
        for pegs in itertools.permutations(self.PEGS):
            self.assertEqual(row_of(list(pegs), rope), told)

    def test_each_stretch_among_small_numbers(self):
        pegs = [(2, -1), (0, 0), (2, 2), (4, 1), (4, 0)]
        spots = [(x, y) for x in (-3, -1, 1, 3, 5, 6) for y in range(-3, 5)]
        for start, end in itertools.product(spots, spots):
            rope = [start, (start[0], end[1] + 9), start, end]
            try:
                told = row_of(pegs, rope)
            except NoRope:
                continue
            self.assertEqual(told, row_by_fractions(pegs, rope))

    def test_kinds(self):
        row = row_of([(0, 0)], [(-1, 1), (1, 1), (-1, 1)])
        self.assertIs(type(row), list)
        for gate in row:
            self.assertIs(type(gate), tuple)
            self.assertIs(type(gate[3]), int)

    def test_what_is_told_is_the_askers_own(self):
        pegs, rope = [(0, 0)], [(-1, 1), (1, 1)]
        kept = copy.deepcopy((pegs, rope))
        row_of(pegs, rope).clear()
        first = row_of(pegs, rope)
        row_of(pegs, [(1, -1), (-1, -1)]).append(1)
        self.assertEqual(first, [(0, 0, None, 1)])
        self.assertEqual(row_of(pegs, rope), [(0, 0, None, 1)])
        row_of([], rope).append(1)
        self.assertEqual(row_of([], rope), [])
        self.assertEqual((pegs, rope), kept)

    def test_refusals(self):
        for rope, place in (([], 0), ([(1, 1)], 0), ([(1, 1), (0, 1)], 1), ([(1, 1), (1, 0), (-1, 0)], 1)):
            with self.assertRaises(NoRope) as told:
                row_of([(0, 0)], rope)
            self.assertEqual(told.exception.place, place)
            with self.assertRaises(NoPegs):
                row_of([(0, 0), (0, 0)], rope)


class Shortened(unittest.TestCase):
    LOW, HIGH, NEXT = (0, None, 0), (0, 0, None), (2, None, 0)

    def there(self, gate):
        return gate + (1,)

    def back(self, gate):
        return gate + (-1,)

    def test_nothing_to_take_out(self):
        for row in ([], [self.there(self.LOW)], [self.there(self.LOW), self.there(self.NEXT)]):
            self.assertEqual(shortened(row), row)

    def test_neighbours_to_and_fro(self):
        self.assertEqual(shortened([self.there(self.LOW), self.back(self.LOW)]), [])
        self.assertEqual(shortened([self.back(self.LOW), self.there(self.LOW)]), [])

    def test_those_that_become_neighbours_only_then(self):
        row = [self.there(self.LOW), self.there(self.NEXT), self.back(self.NEXT), self.back(self.LOW)]
        self.assertEqual(shortened(row), [])
        row = [self.there(self.HIGH)] + row + [self.there(self.NEXT)]
        self.assertEqual(shortened(row), [self.there(self.HIGH), self.there(self.NEXT)])

    def test_same_way_twice_stays(self):
        row = [self.there(self.LOW), self.there(self.LOW)]
        self.assertEqual(shortened(row), row)
        row = [self.back(self.HIGH), self.back(self.HIGH), self.back(self.HIGH)]
        self.assertEqual(shortened(row), row)

    def test_unlike_gates_of_one_line_stay(self):
        row = [self.there(self.LOW), self.back(self.HIGH)] * 3
        self.assertEqual(shortened(row), row)
        row = [(0, 0, 2, 1), (0, 2, None, -1), (0, 0, 2, 1), (0, None, 0, -1)]
        self.assertEqual(shortened(row), row)

    def test_unlike_lines_stay(self):
        row = [(0, None, 0, 1), (2, None, 0, -1)]
        self.assertEqual(shortened(row), row)

    def test_to_and_fro_that_are_no_neighbours_stay(self):
        row = [self.there(self.LOW), self.back(self.HIGH), self.back(self.LOW)]
        self.assertEqual(shortened(row), row)

    def test_three_in_turn(self):
        row = [self.there(self.LOW), self.back(self.LOW), self.there(self.LOW)]
        self.assertEqual(shortened(row), [self.there(self.LOW)])

    def test_big_numbers(self):
        row = [(BIG, BIG, BIG + 1, 1), (BIG, BIG, BIG + 1, -1), (BIG, BIG + 1, None, 1)]
        self.assertEqual(shortened(row), [(BIG, BIG + 1, None, 1)])

    def test_gates_at_nought_and_without_end(self):
        row = [(0, None, 0, 1), (0, 0, None, -1)]
        self.assertEqual(shortened(row), row)
        row = [(0, -1, 0, 1), (0, 0, 1, -1), (0, 0, 1, 1), (0, -1, 0, -1)]
        self.assertEqual(shortened(row), [])

    def test_long_row(self):
        there = [self.there(self.LOW), self.there(self.NEXT)] * 1200
        back = [self.back(self.NEXT), self.back(self.LOW)] * 1200
        self.assertEqual(shortened(there + back), [])
        self.assertEqual(shortened(there), there)

    def take_out_from_the_end(self, row):
        row = list(row)
        k = len(row) - 2
        while k >= 0:
            if row[k][:3] == row[k + 1][:3] and row[k][3] + row[k + 1][3] == 0:
                del row[k:k + 2]
                k = len(row) - 1
            k -= 1
        return row

    def test_every_short_row(self):
        passings = [gate + (way,) for gate in (self.LOW, self.HIGH, self.NEXT) for way in (1, -1)]
        for count in range(6):
            for passed in itertools.product(passings, repeat=count):
                row = list(passed)
                told = shortened(row)
                self.assertEqual(told, self.take_out_from_the_end(passed))
                self.assertEqual(row, list(passed))
                self.assertEqual(shortened(told), told)

    def test_what_is_told_is_the_askers_own(self):
        for row in ([], [self.there(self.LOW)], [self.there(self.LOW), self.back(self.LOW)]):
            kept = list(row)
            told = shortened(row)
            again = list(told)
            self.assertIs(type(told), list)
            told.append(1)
            self.assertEqual(row, kept)
            self.assertEqual(shortened(row), again)


class Alike(unittest.TestCase):
    PEGS = [(0, 0), (4, 2), (4, -2)]

    def both_ways(self, pegs, one, other, told):
        handed = copy.deepcopy((pegs, one, other))
        self.assertIs(alike(pegs, one, other), told)
        self.assertIs(alike(pegs, other, one), told)
        self.assertIs(alike(pegs, one, one), True)
        self.assertIs(alike(pegs, other, list(other)), True)
        self.assertEqual((pegs, one, other), handed)

    def test_alike(self):
        straight = [(-1, 1), (5, 1)]
        self.both_ways(self.PEGS, straight, [(-1, 1), (2, 9), (5, 1)], False)
        self.both_ways(self.PEGS, straight, [(-1, 1), (1, 3), (3, 1), (5, -1), (5, 1)], True)
        self.both_ways(self.PEGS, straight, [(-1, 1), (-1, 1), (5, 1), (5, 1)], True)
        self.both_ways(self.PEGS, straight, [(-1, 1), (5, 1), (-1, 1), (5, 1)], True)
        self.both_ways(self.PEGS, straight, [(-1, 1), (7, 9), (-1, 8), (5, 1)], False)

    def test_not_alike(self):
        over, under = [(-1, 1), (1, 1)], [(-1, 1), (-1, -1), (1, -1), (1, 1)]
        self.both_ways([(0, 0)], over, under, False)
        self.both_ways([(0, 2)], over, under, True)
        self.both_ways([(0, -2)], over, under, True)
        self.both_ways([], over, under, True)

    def test_closed_ropes(self):
        still = [(1, 1), (1, 1)]
        left = [(1, 1), (-1, 1), (-1, -1), (1, -1), (1, 1)]
        right = left[::-1]
        self.both_ways([(0, 0)], still, left, False)
        self.both_ways([(0, 0)], left, right, False)
        self.both_ways([(0, 0)], left, left + left[1:], False)
        self.both_ways([(0, 0)], still, left + right[1:], True)
        self.both_ways([(0, 5)], still, left, True)
        self.both_ways([(0, 5)], left, right, True)

    def test_same_rounds_in_another_order_are_not_alike(self):
        first = [(0, -9), (-2, -9), (-4, -9), (-4, 9), (-2, 9), (-2, -9), (0, -9)]
        second = [(0, -9), (2, -9), (2, 9), (4, 9), (4, -9), (2, -9), (0, -9)]
        pegs = [(-3, 0), (3, 0)]
        self.both_ways(pegs, first + second[1:], second + first[1:], False)

    def test_big_numbers(self):
        pegs = [(0, 0)]
        high, low = [(-BIG, 0), (-1, 1), (BIG, 0)], [(-BIG, 0), (1, -1), (BIG, 0)]
        self.both_ways(pegs, high, low, False)
        self.both_ways(pegs, high, [(-BIG, 0), (BIG - 1, 1), (BIG, 0)], True)

    def test_pegs_are_refused_first(self):
        for one in ([], [(0, 1), (1, 1)], [(-1, 0), (1, 0)], [(1, 1), (2, 2)]):
            for other in ([], [(0, 1), (1, 1)], [(-1, 0), (1, 0)], [(3, 3), (2, 5)]):
                with self.assertRaises(NoPegs):
                    alike([(0, 0), (0, 0)], one, other)

    def no_rope(self, one, other, place):
        with self.assertRaises(NoRope) as told:
            alike([(0, 0)], one, other)
        self.assertEqual(told.exception.place, place)

    def test_first_rope_is_refused_ahead_of_the_second(self):
        self.no_rope([(1, 1), (1, 2), (0, 3)], [(0, 1), (1, 1)], 2)
        self.no_rope([(1, 1), (1, 0), (-1, 0)], [(0, 1), (1, 1)], 1)
        self.no_rope([(1, 1), (1, 0), (-1, 0)], [], 1)
        self.no_rope([], [(1, 1), (0, 1)], 0)

    def test_second_rope_is_refused_ahead_of_the_ends(self):
        self.no_rope([(1, 1), (1, 2)], [(5, 5), (0, 1), (1, 1)], 1)
        self.no_rope([(1, 1), (1, 2)], [(5, 5), (5, 6), (1, 0), (-1, 0)], 2)
        self.no_rope([(1, 1), (1, 2)], [(5, 5)], 0)
        self.no_rope([(1, 1), (1, 2)], [], 0)

    def test_first_rope_is_refused_ahead_of_the_ends(self):
        self.no_rope([(5, 5), (0, 1), (1, 1)], [(1, 1), (1, 2)], 1)
        self.no_rope([(5, 5)], [(1, 1), (1, 2)], 0)

    def test_refused_with_the_same_ends(self):
        self.no_rope([(1, 1), (0, 1), (1, 2)], [(1, 1), (1, 2)], 1)
        self.no_rope([(1, 1), (1, 2)], [(1, 1), (2, 1), (0, 1), (1, 2)], 2)

    def no_ends(self, pegs, one, other):
        for first, second in ((one, other), (other, one)):
            with self.assertRaises(NoEnds):
                alike(pegs, first, second)

    def test_unlike_first_corners(self):
        self.no_ends([(0, 0)], [(1, 1), (5, 5)], [(1, 2), (5, 5)])
        self.no_ends([(0, 0)], [(1, 1), (5, 5)], [(2, 1), (5, 5)])
        self.no_ends([(0, 0)], [(1, 1), (5, 5)], [(-1, 1), (5, 5)])
        self.no_ends([], [(1, 1), (5, 5)], [(1, 2), (5, 5)])

    def test_unlike_last_corners(self):
        self.no_ends([(0, 0)], [(1, 1), (5, 5)], [(1, 1), (5, 6)])
        self.no_ends([(0, 0)], [(1, 1), (5, 5)], [(1, 1), (6, 5)])
        self.no_ends([(0, 0)], [(1, 1), (5, 5)], [(1, 1), (-5, 5)])
        self.no_ends([], [(1, 1), (5, 5)], [(1, 1), (5, 6)])

    def test_both_ends_unlike(self):
        self.no_ends([(0, 0)], [(1, 1), (5, 5)], [(5, 5), (1, 1)])
        self.no_ends([(0, 0)], [(1, 1), (5, 5)], [(1, 2), (5, 6)])

    def test_ends_that_differ_far_behind(self):
        self.no_ends([], [(BIG, BIG), (1, 1)], [(BIG, BIG + 1), (1, 1)])


if __name__ == "__main__":
    unittest.main()

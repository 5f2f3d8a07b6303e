"""Points 2, 4 and 5: peg lines, and the ropes that may lie among pegs."""

import copy
import unittest
from fractions import Fraction

from tautline.boards import lines, looked
from tautline.errors import NoPegs, NoRope
from tautline.gates import alike, row_of

BIG = 10 ** 40
HUGE = 10 ** 5000


class Lines(unittest.TestCase):
    def test_no_pegs(self):
        self.assertEqual(lines([]), [])

    def test_one_peg(self):
        self.assertEqual(lines([(3, -4)]), [(3, [-4])])
        self.assertEqual(lines([(0, 0)]), [(0, [0])])

    def test_one_line_out_of_order(self):
        self.assertEqual(lines([(1, 5), (1, -2), (1, 10), (1, 0)]), [(1, [-2, 0, 5, 10])])

    def test_several_lines_out_of_order(self):
        pegs = [(4, 1), (-3, 7), (10, 0), (4, -6), (-3, 2), (0, 0), (4, 0)]
        told = [(-3, [2, 7]), (0, [0]), (4, [-6, 0, 1]), (10, [0])]
        self.assertEqual(lines(pegs), told)
        self.assertEqual(lines(pegs[::-1]), told)

    def test_same_height_on_unlike_lines(self):
        self.assertEqual(lines([(2, 1), (1, 2), (1, 1), (2, 2)]), [(1, [1, 2]), (2, [1, 2])])

    def test_big_numbers(self):
        pegs = [(BIG + 1, 2), (BIG, -BIG), (BIG, -BIG - 1), (-BIG, 0), (BIG + 1, 1)]
        told = [(-BIG, [0]), (BIG, [-BIG - 1, -BIG]), (BIG + 1, [1, 2])]
        self.assertEqual(lines(pegs), told)

    def test_numbers_of_thousands_of_figures(self):
        pegs = [(HUGE + 1, HUGE), (HUGE, 1), (HUGE, -HUGE)]
        # No assertEqual: numbers of this size cannot be shown when it fails.
        self.assertTrue(lines(pegs) == [(HUGE, [-HUGE, 1]), (HUGE + 1, [HUGE])])

    def test_twelve_pegs(self):
        pegs = [(x, y) for x in (6, 2, 4) for y in (9, 1, 5, 3)]
        self.assertEqual(lines(pegs), [(x, [1, 3, 5, 9]) for x in (2, 4, 6)])

    def test_kinds(self):
        told = lines([(1, 2), (3, 4)])
        self.assertIs(type(told), list)
        for line in told:
            self.assertIs(type(line), tuple)
            self.assertIs(type(line[0]), int)
            self.assertIs(type(line[1]), list)
            self.assertIs(type(line[1][0]), int)

    def test_what_is_told_is_the_askers_own(self):
        pegs = [(4, 1), (-3, 7), (4, -6)]
        kept = list(pegs)
        told = [(-3, [7]), (4, [-6, 1])]
        first = lines(pegs)
        first[1][1].append(99)
        first[0][1].clear()
        self.assertEqual(lines(pegs), told)
        second = lines(pegs)
        second.clear()
        self.assertEqual(lines(pegs), told)
        third = lines(pegs)
        lines([(4, 2), (-3, 8)])
        self.assertEqual(third, told)
        self.assertEqual(pegs, kept)

    def test_changed_lines_change_no_rope(self):
        pegs = [(0, 0), (0, 4)]
        told = lines(pegs)
        told[0][1].append(2)
        told.append((1, [5]))
        self.assertIsNone(looked(pegs, [(-1, 2), (1, 2)]))
        self.assertEqual(row_of(pegs, [(-1, 2), (1, 2)]), [(0, 0, 4, 1)])

    def test_no_pegs_told_is_a_new_list(self):
        lines([]).append(1)
        self.assertEqual(lines([]), [])

    def test_changed_pegs_are_looked_at_anew(self):
        pegs = [(0, 0)]
        self.assertEqual(lines(pegs), [(0, [0])])
        pegs.append((0, 5))
        self.assertEqual(lines(pegs), [(0, [0, 5])])
        pegs.append((0, 0))
        with self.assertRaises(NoPegs):
            lines(pegs)


class PegsAlike(unittest.TestCase):
    REFUSED = [
        [(0, 0), (0, 0)],
        [(1, 2), (5, 5), (5, 5)],
        [(1, 2), (3, 4), (1, 7), (9, 9), (1, 2)],
        [(1, 2), (1, 2), (1, 2)],
        [(BIG, -BIG), (0, 0), (BIG, -BIG)],
        [(HUGE, 1), (HUGE, 1)],
    ]
    ROPES = [
        [(-9, -9), (-8, -9)],
        [(-1, 0), (2, 0)],
        [(0, 5), (1, 5)],
        [(-1, -1)],
        [],
    ]

    def refuse(self, ask, *handed):
        with self.assertRaises(NoPegs):
            ask(*handed)

    def test_refused_by_all_whatever_the_rope_is(self):
        for pegs in self.REFUSED:
            kept = list(pegs)
            self.refuse(lines, pegs)
            for rope in self.ROPES:
                self.refuse(looked, pegs, rope)
                self.refuse(row_of, pegs, rope)
                for other in self.ROPES:
                    self.refuse(alike, pegs, rope, other)
            self.assertTrue(pegs == kept)

    def test_alike_in_one_number_alone_is_not_refused(self):
        self.assertEqual(lines([(1, 2), (1, 3), (2, 2), (2, 1)]), [(1, [2, 3]), (2, [1, 2])])
        self.assertEqual(lines([(BIG, 0), (BIG + 1, 0)]), [(BIG, [0]), (BIG + 1, [0])])


class Looked(unittest.TestCase):
    def good(self, pegs, rope):
        self.assertIsNone(looked(pegs, rope))
        row_of(pegs, rope)

    def bad(self, pegs, rope, place):
        for ask in (looked, row_of):
            with self.assertRaises(NoRope) as told:
                ask(pegs, rope)
            self.assertEqual(told.exception.place, place)
            self.assertIs(type(told.exception.place), int)

    def test_none_for_a_rope_that_may_be(self):
        self.good([], [(0, 0), (5, 5)])
        self.good([(0, 0)], [(-1, 1), (1, 1)])
        self.good([(0, 0)], [(-1, -1), (1, -1), (1, 7), (-4, 3)])
        self.good([(0, 0), (2, 2)], [(-1, 0), (1, 3), (3, 2)])

    def test_without_pegs_every_rope_may_be(self):
        self.good([], [(0, 0), (0, 0)])
        self.good([], [(0, 0), (0, 5), (0, -5), (3, 3), (-3, -3)])

    def test_fewer_than_two_corners(self):
        for pegs in ([], [(0, 0)], [(0, 0), (3, 1)]):
            self.bad(pegs, [], 0)
            self.bad(pegs, [(1, 1)], 0)
            self.bad(pegs, [(0, 0)], 0)

    def test_two_corners_are_enough(self):
        self.good([(0, 0)], [(1, 1), (1, 1)])
        self.good([(0, 0)], [(1, 1), (2, 1)])

    def test_corner_on_a_peg_line(self):
        self.bad([(0, 0)], [(0, 5), (1, 1)], 0)
        self.bad([(0, 0)], [(1, 1), (0, 5)], 1)
        self.bad([(0, 0)], [(1, 1), (2, 2), (0, -5), (2, 2)], 2)
        self.bad([(0, 0), (7, 3)], [(1, 1), (2, 2), (7, 9)], 2)

    def test_corner_on_a_peg(self):
        self.bad([(0, 0)], [(-1, 0), (0, 0), (1, 0)], 1)
        self.bad([(3, 4)], [(3, 4), (3, 4)], 0)

    def test_first_of_several_corners(self):
        self.bad([(0, 0), (4, 0)], [(1, 1), (4, 2), (0, 2), (4, 3)], 1)
        self.bad([(0, 0), (4, 0)], [(1, 1), (1, 2), (0, 2), (4, 3)], 2)

    def test_corner_goes_ahead_of_a_stretch_through_a_peg(self):
        self.bad([(0, 0)], [(-1, 0), (1, 0), (0, 5)], 2)
        self.bad([(0, 0)], [(-1, 0), (1, 0), (-1, 0), (2, 2), (0, 9), (1, 1)], 4)
        self.bad([(0, 0), (5, 5)], [(-1, 0), (1, 0), (3, 3), (5, 8)], 3)

    def test_stretch_that_ends_on_the_peg_line_is_told_by_its_corner(self):
        self.bad([(0, 0), (2, 0)], [(-1, 0), (2, 0)], 1)

    def test_stretch_through_a_peg(self):
        self.bad([(0, 0)], [(-1, 0), (1, 0)], 0)
        self.bad([(0, 0)], [(1, 0), (-1, 0)], 0)
        self.bad([(0, 0)], [(-1, -1), (1, 1)], 0)
        self.bad([(0, 0)], [(1, 1), (-1, -1)], 0)
        self.bad([(0, 0)], [(-2, 4), (1, -2)], 0)
        self.bad([(0, 0)], [(1, -2), (-2, 4)], 0)

    def test_first_of_several_stretches(self):
        rope = [(-1, 5), (1, 5), (1, 0), (-1, 0), (1, 0), (-1, 0)]
        self.bad([(0, 0)], rope, 2)
        self.bad([(0, 0), (0, 5)], rope, 0)
        self.bad([(0, 0)], [(5, 5), (5, 6), (3, 6), (1, 1), (-1, -1)], 3)

    def test_any_peg_of_a_line_and_any_line(self):
        pegs = [(0, 0), (0, 3), (0, 6), (4, 1), (4, 3), (8, 2)]
        for x, y in pegs:
            self.bad(pegs, [(x - 1, y - 5), (x - 1, y), (x + 1, y)], 1)
            self.bad(pegs, [(x + 1, y - 5), (x + 1, y), (x - 1, y)], 1)

    def test_peg_beyond_the_ends_of_a_stretch(self):
        self.good([(0, 0)], [(1, 0), (3, 0)])
        self.good([(0, 0)], [(3, 0), (1, 0)])
        self.good([(0, 0)], [(-3, -3), (-1, -1)])
        self.good([(0, 0)], [(-1, -1), (-3, -3)])
        self.good([(0, 0), (10, 0)], [(1, 0), (9, 0), (1, 0)])

    def test_upright_stretches(self):
        self.good([(0, 0)], [(1, -5), (1, 5), (1, -9)])
        self.good([(0, 0)], [(-1, 5), (-1, -5)])
        self.bad([(0, 0)], [(0, -5), (0, 5)], 0)

    def test_stretches_of_no_length(self):
        self.good([(0, 0)], [(1, 0), (1, 0), (1, 0)])
        self.bad([(0, 0)], [(1, 0), (1, 0), (-1, 0), (-1, 0)], 1)
        self.bad([(0, 0)], [(0, 0), (0, 0)], 0)

    def test_closed_rope(self):
        self.good([(0, 0)], [(-1, -1), (1, -1), (1, 1), (-1, 1), (-1, -1)])

    def test_just_above_and_just_below(self):
        for start, end in (((-BIG, -BIG), (BIG, BIG)), ((BIG, BIG), (-BIG, -BIG))):
            # The stretch meets the line at (7, 7) just so.
            self.bad([(7, 7)], [start, end], 0)
            self.good([(7, 8)], [start, end])
            self.good([(7, 6)], [start, end])

    def test_less_than_one_off_the_peg(self):
        rope = [(-BIG, -1), (BIG, 0), (-BIG, 1)]
        self.good([(0, 0)], rope)
        self.bad([(0, 0)], [(-BIG, -1), (BIG, 1)], 0)
        self.good([(0, 0)], [(-BIG, -1), (BIG + 1, 1)])
        self.good([(0, 0)], [(BIG + 1, 1), (-BIG, -1)])
        self.good([(BIG, 1)], [(0, 0), (2 * BIG + 1, 2)])
        self.bad([(BIG, 1)], [(-1, 0), (2 * BIG + 1, 2)], 0)

    def test_numbers_of_thousands_of_figures(self):
        self.bad([(0, 0)], [(-HUGE, -1), (HUGE, 1)], 0)
        self.good([(0, 0)], [(-HUGE, -1), (HUGE + 1, 1)])
        self.bad([(HUGE, 0)], [(1, 1), (HUGE, HUGE)], 1)
        self.good([(HUGE, 0)], [(1, 1), (HUGE + 1, HUGE)])

    def test_two_hundred_corners_and_twelve_pegs(self):
        pegs = [(10 * x, y) for x in range(4) for y in (-3, 0, 3)]
        rope = [(-5, 1), (35, 1)] * 100
        self.good(pegs, rope)
        self.bad(pegs, rope[:-1] + [(25, -1)], 198)
        self.bad(pegs, rope[:-1] + [(30, 1)], 199)

    def meets(self, pegs, start, end):
        steep = Fraction(end[1] - start[1], end[0] - start[0])
        return any(start[1] + steep * (x - start[0]) == y for x, y in pegs)

    def test_told_of_each_stretch_among_small_numbers(self):
        pegs = [(0, 0), (2, 1), (2, -1), (4, 0)]
        spots = [(x, y) for x in (-3, -1, 1, 3, 5) for y in range(-3, 4)]
        for start in spots:
            for end in spots:
                west, east = sorted((start[0], end[0]))
                between = [peg for peg in pegs if west < peg[0] < east]
                if between and self.meets(between, start, end):
                    self.bad(pegs, [start, end], 0)
                else:
                    self.good(pegs, [start, end])

    def test_nothing_handed_in_is_changed(self):
        pegs = [(4, 1), (-3, 7), (4, -6)]
        for rope in ([(5, 5), (3, 3), (-9, 2)], [(5, 1), (3, 1)], [(4, 4), (1, 1)], [(1, 1)], []):
            handed = copy.deepcopy((pegs, rope))
            try:
                looked(pegs, rope)
            except NoRope:
                pass
            self.assertEqual((pegs, rope), handed)

    def test_a_refusal_leaves_no_trace(self):
        pegs, rope = [(0, 0)], [(-1, 0), (1, 0)]
        self.bad(pegs, rope, 0)
        rope[1] = (1, 1)
        self.good(pegs, rope)
        pegs[0] = (1, 5)
        self.bad(pegs, rope, 1)


if __name__ == "__main__":
    unittest.main()

"""Points 2 and 10: ropes joined, and the back of a rope."""

import copy
import unittest

from tautline.errors import NoEnds
from tautline.ropes import back, joined

BIG = 10 ** 40


class Joined(unittest.TestCase):
    def test_two_corners_each(self):
        self.assertEqual(joined([(0, 0), (1, 2)], [(1, 2), (5, -5)]), [(0, 0), (1, 2), (5, -5)])

    def test_more_corners(self):
        one, other = [(0, 0), (3, 1), (1, 2)], [(1, 2), (9, 9), (3, 1), (5, -5)]
        self.assertEqual(joined(one, other), [(0, 0), (3, 1), (1, 2), (9, 9), (3, 1), (5, -5)])
        self.assertEqual(joined([(7, 7), (0, 0)], one), [(7, 7), (0, 0), (3, 1), (1, 2)])
        self.assertEqual(joined(one, [(1, 2), (4, 4)]), [(0, 0), (3, 1), (1, 2), (4, 4)])

    def test_only_the_first_corner_of_the_second_goes(self):
        still = [(1, 1), (1, 1)]
        self.assertEqual(joined(still, still), [(1, 1), (1, 1), (1, 1)])
        self.assertEqual(joined([(0, 0), (1, 1), (1, 1)], [(1, 1), (1, 1), (2, 2)]),
                         [(0, 0), (1, 1), (1, 1), (1, 1), (2, 2)])

    def test_a_rope_with_itself(self):
        ring = [(0, 0), (2, 0), (1, 1), (0, 0)]
        kept = list(ring)
        self.assertEqual(joined(ring, ring), kept + kept[1:])
        self.assertEqual(ring, kept)

    def test_big_numbers(self):
        self.assertEqual(joined([(0, 0), (BIG, -BIG)], [(BIG, -BIG), (1, 1)]), [(0, 0), (BIG, -BIG), (1, 1)])
        with self.assertRaises(NoEnds):
            joined([(0, 0), (BIG, -BIG)], [(BIG, 1 - BIG), (1, 1)])

    def test_second_begins_elsewhere(self):
        for one, other in (
            ([(0, 0), (1, 2)], [(2, 1), (5, 5)]),
            ([(0, 0), (1, 2)], [(1, 3), (5, 5)]),
            ([(0, 0), (1, 2)], [(0, 2), (5, 5)]),
            ([(0, 0), (1, 2)], [(0, 0), (1, 2)]),
            ([(0, 0), (1, 2)], [(5, 5), (1, 2)]),
            ([(1, 2), (0, 0)], [(1, 2), (5, 5)]),
            ([(0, 0), (1, 2), (3, 3)], [(1, 2), (5, 5), (3, 3)]),
        ):
            kept = copy.deepcopy((one, other))
            with self.assertRaises(NoEnds):
                joined(one, other)
            self.assertEqual((one, other), kept)

    def test_what_is_told_is_the_askers_own(self):
        one, other = [(0, 0), (1, 2)], [(1, 2), (5, -5), (3, 3)]
        kept = copy.deepcopy((one, other))
        told = joined(one, other)
        self.assertIs(type(told), list)
        again = joined(one, other)
        told[0] = (8, 8)
        told.append((9, 9))
        self.assertEqual((one, other), kept)
        self.assertEqual(again, [(0, 0), (1, 2), (5, -5), (3, 3)])
        one.append((7, 7))
        other.clear()
        self.assertEqual(again, [(0, 0), (1, 2), (5, -5), (3, 3)])


class Back(unittest.TestCase):
    def test_two_corners(self):
        self.assertEqual(back([(0, 0), (1, 2)]), [(1, 2), (0, 0)])
        self.assertEqual(back([(1, 2), (1, 2)]), [(1, 2), (1, 2)])

    def test_more_corners(self):
        rope = [(0, 0), (3, 1), (3, 1), (1, 2), (BIG, -BIG)]
        self.assertEqual(back(rope), [(BIG, -BIG), (1, 2), (3, 1), (3, 1), (0, 0)])
        self.assertEqual(back(back(rope)), rope)

    def test_back_of_joined(self):
        one, other = [(0, 0), (3, 1), (1, 2)], [(1, 2), (9, 9), (5, -5)]
        self.assertEqual(back(joined(one, other)), joined(back(other), back(one)))
        self.assertEqual(joined(one, back(one)), [(0, 0), (3, 1), (1, 2), (3, 1), (0, 0)])

    def test_what_is_told_is_the_askers_own(self):
        for rope in ([(0, 0), (1, 2)], [(0, 0), (3, 1), (1, 2)], [(1, 1), (1, 1)]):
            kept = list(rope)
            told = back(rope)
            self.assertIs(type(told), list)
            told[0] = (8, 8)
            told.append((9, 9))
            self.assertEqual(rope, kept)
            again = back(rope)
            rope.clear()
            self.assertEqual(again, kept[::-1])


if __name__ == "__main__":
    unittest.main()

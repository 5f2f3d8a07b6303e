"""Points 2, 3 and 12: the taut rope of a rope."""

import copy
import itertools
import random
import unittest

from tautline.boards import looked
from tautline.errors import NoPegs, NoRope
from tautline.gates import alike, row_of, shortened
from tautline.pulling import pulled
from tautline.ropes import back, joined
from tautline.taut import taut
from tests.dashes import keeps_dashes
from tests.drawn import many, rope_through
from tests.test_moves import within

BIG = 10 ** 40
HUGE = 10 ** 5000


def drawn_ropes(seed, count, **sizes):
    return [(pegs, rope_through(start, row, end)) for pegs, start, row, end in many(seed, count, **sizes)]


class OneByOne(unittest.TestCase):
    PEGS = [(4, 3), (0, 0), (4, -1)]

    def tells(self, pegs, rope, told):
        kept = copy.deepcopy((pegs, rope))
        self.assertEqual(taut(pegs, rope), told)
        self.assertEqual((pegs, rope), kept)
        self.assertEqual(taut(pegs, back(rope)), told[::-1])
        self.assertEqual(taut(pegs[::-1], rope), told)

    def test_no_pegs(self):
        self.tells([], [(0, 0), (5, 9), (-3, 4)], [(0, 0), (-3, 4)])
        self.tells([], [(0, 0), (5, 9), (0, 0)], [(0, 0), (0, 0)])
        self.tells([], [(0, 0), (0, 0)], [(0, 0), (0, 0)])

    def test_straight(self):
        self.tells(self.PEGS, [(-1, 1), (5, 1)], [(-1, 1), (5, 1)])
        self.tells(self.PEGS, [(-1, 1), (-1, 9), (3, 9), (3, 1), (5, 1)], [(-1, 1), (5, 1)])
        self.tells(self.PEGS, [(1, 1), (3, 8), (2, -8), (2, 1)], [(1, 1), (2, 1)])

    def test_bent(self):
        self.tells(self.PEGS, [(-1, 1), (-1, -2), (1, -2), (5, 1)], [(-1, 1), (0, 0), (5, 1)])
        self.tells(self.PEGS, [(-1, 1), (3, 9), (5, 9), (5, 1)], [(-1, 1), (4, 3), (5, 1)])
        self.tells(self.PEGS, [(-1, -5), (-1, 5), (5, 5), (5, 1), (2, 1)], [(-1, -5), (0, 0), (4, 3), (2, 1)])

    def test_to_and_fro_is_pulled_out(self):
        self.tells(self.PEGS, [(-1, 1), (5, 1), (-1, 1), (5, 1)], [(-1, 1), (5, 1)])
        self.tells(self.PEGS, [(-1, 1), (-1, -2), (1, -2), (-1, -2), (-1, 1)], [(-1, 1), (-1, 1)])

    def test_round_one_peg(self):
        ring = [(-1, 1), (-1, -1), (1, -1), (1, 1), (-1, 1)]
        self.tells([(0, 0)], ring, [(-1, 1), (0, 0), (-1, 1)])
        self.tells([(0, 0)], ring * 40, [(-1, 1), (0, 0), (-1, 1)])
        self.tells([(0, 5)], ring, [(-1, 1), (-1, 1)])

    def test_round_all_pegs(self):
        ring = [(-1, 1), (-1, -3), (5, -3), (5, 5), (-1, 5), (-1, 1)]
        hull = [(0, 0), (4, -1), (4, 3)]
        self.tells(self.PEGS, ring, [(-1, 1)] + hull + [(-1, 1)])
        self.tells(self.PEGS, ring * 33, [(-1, 1)] + hull * 33 + [(-1, 1)])

    def test_pegs_on_one_line(self):
        pegs = [(0, 4), (0, 0), (0, 2)]
        ring = [(-1, 2), (-1, -3), (1, -3), (1, 5), (-1, 5), (-1, 2)]
        self.tells(pegs, ring, [(-1, 2), (0, 0), (0, 4), (-1, 2)])
        self.tells(pegs, [(-1, 1), (1, 1), (1, 3), (-1, 3)], [(-1, 1), (0, 2), (-1, 3)])

    def test_two_hundred_corners_and_twelve_pegs(self):
        pegs = [(4 * x, 4 * y) for x in range(4) for y in range(3)]
        ring = [(-1, -1), (13, -1), (13, 9), (-1, 9)]
        hull = [(0, 0), (12, 0), (12, 8), (0, 8)]
        # Both ends lie beyond the sides next to them, so the first and the last corner are passed without a bend.
        self.tells(pegs, ring * 50, [(-1, -1)] + (hull * 50)[1:-1] + [(-1, 9)])

    def test_big_numbers(self):
        self.tells([(0, 0)], [(-BIG, -1), (-BIG, 1), (BIG + 1, 1)], [(-BIG, -1), (0, 0), (BIG + 1, 1)])
        self.tells([(0, 0)], [(-BIG, -1), (BIG, -1), (BIG + 1, 1)], [(-BIG, -1), (BIG + 1, 1)])

    def test_numbers_of_thousands_of_figures(self):
        # No assertEqual: numbers of this size cannot be shown when it fails.
        rope = [(-HUGE, -1), (-HUGE, 1), (HUGE + 1, 1)]
        self.assertTrue(taut([(0, 0)], rope) == [(-HUGE, -1), (0, 0), (HUGE + 1, 1)])
        self.assertTrue(taut([(0, -1)], rope) == [(-HUGE, -1), (HUGE + 1, 1)])

    def test_what_is_told_is_the_askers_own(self):
        pegs = [(0, 0)]
        for rope in ([(-1, -1), (1, -1)], [(-1, -1), (-1, 1), (1, 1), (1, -1)]):
            kept = list(rope)
            told = taut(pegs, rope)
            self.assertIs(type(told), list)
            again = list(told)
            told.append((9, 9))
            told[0] = (8, 8)
            self.assertEqual((pegs, rope), ([(0, 0)], kept))
            self.assertEqual(taut(pegs, rope), again)
            told = taut(pegs, rope)
            rope.clear()
            self.assertEqual(told, again)


class Refusals(unittest.TestCase):
    def test_pegs_first(self):
        for rope in ([], [(1, 1)], [(0, 1), (1, 1)], [(-1, 0), (1, 0)], [(1, 1), (2, 2)]):
            for pegs in ([(0, 0), (0, 0)], [(0, 0), (5, 5), (0, 0)]):
                with self.assertRaises(NoPegs):
                    taut(pegs, rope)

    def test_then_the_rope(self):
        for rope, place in (
            ([], 0),
            ([(1, 1)], 0),
            ([(0, 9), (1, 1)], 0),
            ([(1, 1), (1, 2), (0, 9)], 2),
            ([(1, 1), (1, 0), (-1, 0)], 1),
            ([(1, 0), (-1, 0), (0, 9)], 2),
        ):
            kept = list(rope)
            with self.assertRaises(NoRope) as told:
                taut([(0, 0)], rope)
            self.assertEqual(told.exception.place, place)
            self.assertEqual(rope, kept)


class Whole(unittest.TestCase):
    """Point 3 over drawn boards."""

    def each(self, seed):
        for wide, tall in ((1, 5), (5, 1), (3, 3), (6, 6)):
            for drawn in drawn_ropes(f"{seed} {wide} {tall}", 120, wide=wide, tall=tall, length=14):
                yield drawn

    def test_passes_just_the_gates_of_the_shortened_row(self):
        for pegs, rope in self.each("gates"):
            row = shortened(row_of(pegs, rope))
            told = taut(pegs, rope)
            self.assertEqual(told, pulled(rope[0], row, rope[-1]))
            self.assertTrue(keeps_dashes(rope[0], row, rope[-1], told), (pegs, rope, told))

    def test_rope_and_its_back(self):
        for pegs, rope in self.each("back"):
            self.assertEqual(taut(pegs, back(rope)), taut(pegs, rope)[::-1])
            self.assertEqual(taut(pegs, joined(rope, back(rope))), [rope[0], rope[0]])
            self.assertEqual(taut(pegs, joined(joined(rope, back(rope)), rope)), taut(pegs, rope))

    def test_order_of_pegs_does_not_matter(self):
        for pegs, rope in self.each("order"):
            self.assertEqual(taut(sorted(pegs), rope), taut(pegs, rope))

    def may_lie(self, pegs, rope):
        try:
            looked(pegs, rope)
        except NoRope:
            return False
        return True

    def moved(self, chance, pegs, rope):
        """The rope with corners put in and left out where the triangle is free of pegs, and how often that was so."""
        rope, moves = list(rope), 0
        for _ in range(12):
            k = chance.randrange(1, len(rope))
            corner = (2 * chance.randint(-4, 8) + 1, chance.randint(-4, 14))
            other = rope[:k] + [corner] + rope[k:]
            if chance.random() < 0.5 and 2 < len(rope) and k < len(rope) - 1:
                corner, other = rope[k], rope[:k] + rope[k + 1:]
                triangle = (rope[k - 1], corner, rope[k + 1])
            else:
                triangle = (rope[k - 1], corner, rope[k])
            if not any(within(triangle, peg) for peg in pegs) and self.may_lie(pegs, other):
                rope, moves = other, moves + 1
        return rope, moves

    def test_moved_ropes_have_the_same_taut_rope(self):
        chance = random.Random("moved")
        count = 0
        for pegs, rope in self.each("moved"):
            other, moves = self.moved(chance, pegs, rope)
            count += moves
            self.assertIs(alike(pegs, rope, other), True)
            self.assertEqual(taut(pegs, other), taut(pegs, rope))
        self.assertGreater(count, 500)

    def test_alike_ropes_have_the_same_taut_rope(self):
        pegs = [(0, 0), (2, 1), (2, -1)]
        spots = [(x, y) for x in (-1, 1, 3) for y in (-3, 0, 2)]
        told = {}
        for corners in itertools.product(spots, repeat=3):
            rope = [(-1, 0)] + list(corners) + [(3, 0)]
            if self.may_lie(pegs, rope):
                told.setdefault(tuple(shortened(row_of(pegs, rope))), []).append(rope)
        self.assertGreater(len(told), 9)
        for same in told.values():
            for rope in same:
                self.assertIs(alike(pegs, same[0], rope), True)
                self.assertEqual(taut(pegs, rope), taut(pegs, same[0]))

    def test_a_taut_rope_laid_again_between_pegs(self):
        # The taut rope with each bend moved off its peg by a little is a rope with the same taut one.
        pegs = [(0, 0), (400, 300), (800, 0)]
        told = [(-100, -100), (0, 0), (400, 300), (800, 0), (900, -100)]
        rope = [(-100, -100), (-1, 2), (399, 305), (801, 2), (900, -100)]
        self.assertEqual(taut(pegs, rope), told)


if __name__ == "__main__":
    unittest.main()

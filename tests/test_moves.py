"""Point 3, its first part: corners that are left out or put in keep the shortened row, but never over a peg."""

import itertools
import unittest

from tautline.errors import NoRope
from tautline.gates import alike, row_of, shortened


def turn(a, b, c):
    return (b[0] - a[0]) * (c[1] - a[1]) - (b[1] - a[1]) * (c[0] - a[0])


def within(triangle, peg):
    """Whether the peg lies inside of the triangle or on its border."""
    a, b, c = triangle
    turns = (turn(a, b, peg), turn(b, c, peg), turn(c, a, peg))
    boxed = all(min(s[k] for s in triangle) <= peg[k] <= max(s[k] for s in triangle) for k in (0, 1))
    return boxed and (min(turns) >= 0 or max(turns) <= 0)


class OneCorner(unittest.TestCase):
    def same(self, pegs, rope, other):
        self.assertIs(alike(pegs, rope, other), True)
        self.assertIs(alike(pegs, other, rope), True)
        self.assertEqual(shortened(row_of(pegs, rope)), shortened(row_of(pegs, other)))

    def unlike(self, pegs, rope, other):
        self.assertIs(alike(pegs, rope, other), False)
        self.assertIs(alike(pegs, other, rope), False)
        self.assertNotEqual(shortened(row_of(pegs, rope)), shortened(row_of(pegs, other)))

    def test_triangle_without_a_peg(self):
        pegs = [(0, 0), (4, 5), (4, -5)]
        self.same(pegs, [(-1, 1), (1, 9), (5, 1)], [(-1, 1), (1, 9), (3, 5), (5, 1)])
        self.same(pegs, [(-1, 1), (5, 1)], [(-1, 1), (2, 2), (5, 1)])
        self.same(pegs, [(-1, 1), (5, 1)], [(-1, 1), (9, 1), (5, 1)])
        self.same(pegs, [(-1, 1), (5, 1)], [(-1, 1), (-8, 40), (5, 1)])

    def test_triangle_with_a_peg(self):
        pegs = [(0, 0), (4, 5), (4, -5)]
        self.unlike(pegs, [(-1, 1), (5, 1)], [(-1, 1), (-1, -2), (5, 1)])
        self.unlike(pegs, [(-1, 1), (5, 1)], [(-1, 1), (3, 20), (5, 1)])
        self.unlike(pegs, [(-1, 1), (5, 1)], [(-1, 1), (3, -20), (5, 1)])

    def test_put_in_on_the_stretch_or_alike(self):
        pegs = [(0, 0), (2, 0)]
        self.same(pegs, [(-1, 1), (3, 1)], [(-1, 1), (1, 1), (3, 1)])
        self.same(pegs, [(-1, 1), (3, 1)], [(-1, 1), (-1, 1), (3, 1)])
        self.same(pegs, [(-1, 1), (3, 1)], [(-1, 1), (3, 1), (3, 1)])

    def test_to_and_fro_left_out(self):
        pegs = [(0, 0), (2, 0)]
        self.same(pegs, [(-1, 1), (-1, 1)], [(-1, 1), (3, 1), (-1, 1)])
        self.same(pegs, [(-1, 1), (-1, 1)], [(-1, 1), (3, -2), (-1, 1)])


class EveryTriangle(unittest.TestCase):
    PEGS = [(0, 0), (2, 1), (2, -1)]
    SPOTS = [(x, y) for x in (-1, 1, 3) for y in (-3, -1, 0, 2)]

    def may_be(self, rope):
        try:
            row_of(self.PEGS, rope)
        except NoRope:
            return False
        return True

    def test_alike_just_where_the_triangle_holds_no_peg(self):
        told = {True: 0, False: 0}
        for a, b, c in itertools.product(self.SPOTS, repeat=3):
            # The corners ahead and behind keep the move in the midst of a rope.
            ahead, behind = [(a[0], 7), a], [c, (c[0], -7)]
            rope, other = ahead + [b] + behind, ahead + behind
            if not (self.may_be(rope) and self.may_be(other)):
                continue
            free = not any(within((a, b, c), peg) for peg in self.PEGS)
            self.assertIs(alike(self.PEGS, rope, other), free)
            told[free] += 1
        self.assertGreater(min(told.values()), 100)


if __name__ == "__main__":
    unittest.main()

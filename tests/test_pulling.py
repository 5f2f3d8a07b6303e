"""Points 2 and 11: rows of gates pulled tight, one by one."""

import copy
import unittest

from tautline.pulling import pulled
from tests.pictures import from_end, mirrored, upside_down

THIRTY = 10 ** 29 + 7
HUGE = 10 ** 5000


class Pulling(unittest.TestCase):
    def tells(self, start, row, end, pegs):
        """The row as it is, from its end, mirrored and upside down."""
        kept = copy.deepcopy(row)
        told = [start] + pegs + [end]
        self.assertEqual(pulled(start, row, end), told)
        self.assertEqual(row, kept)
        self.assertEqual(pulled(end, from_end(row), start), told[::-1])
        self.assertEqual(pulled((-start[0], start[1]), mirrored(row), (-end[0], end[1])), [(-x, y) for x, y in told])
        self.assertEqual(pulled((start[0], -start[1]), upside_down(row), (end[0], -end[1])), [(x, -y) for x, y in told])


class NoGate(Pulling):
    def test_straight(self):
        self.tells((0, 0), [], (5, 3), [])
        self.tells((0, 0), [], (0, 3), [])

    def test_both_ends_in_one_spot(self):
        self.tells((1, 2), [], (1, 2), [])
        self.assertEqual(pulled((1, 2), [], (1, 2)), [(1, 2), (1, 2)])


class OneGate(Pulling):
    def test_passed_straight(self):
        self.tells((-2, 1), [(0, 0, None, 1)], (2, 1), [])
        self.tells((-2, 1), [(0, None, 2, 1)], (2, 1), [])
        self.tells((-2, 1), [(0, 0, 2, 1)], (2, 1), [])
        self.tells((-2, -9), [(0, 0, 2, 1)], (2, 11), [])

    def test_bent_at_the_lower_peg(self):
        self.tells((-2, -1), [(0, 0, None, 1)], (2, -1), [(0, 0)])
        self.tells((-2, -1), [(0, 0, 4, 1)], (2, -1), [(0, 0)])
        self.tells((-2, 3), [(0, 0, 4, 1)], (2, -4), [(0, 0)])
        self.tells((2, -1), [(0, 0, 4, -1)], (-2, -1), [(0, 0)])

    def test_bent_at_the_upper_peg(self):
        self.tells((-2, 5), [(0, None, 4, 1)], (2, 5), [(0, 4)])
        self.tells((-2, 5), [(0, 0, 4, 1)], (2, 5), [(0, 4)])
        self.tells((-2, 1), [(0, 0, 4, 1)], (2, 8), [(0, 4)])
        self.tells((2, 5), [(0, 0, 4, -1)], (-2, 5), [(0, 4)])

    def test_gates_without_end(self):
        self.tells((-2, 100), [(0, 0, None, 1)], (2, 9999), [])
        self.tells((-2, -100), [(0, None, 0, 1)], (2, -9999), [])
        self.tells((-2, -100), [(0, 0, None, 1)], (2, -9999), [(0, 0)])
        self.tells((-2, 100), [(0, None, 0, 1)], (2, 9999), [(0, 0)])

    def test_touched_straight_on(self):
        self.tells((-2, 0), [(0, 0, None, 1)], (2, 0), [])
        self.tells((-2, 0), [(0, None, 0, 1)], (2, 0), [])
        self.tells((-3, -1), [(0, 0, 5, 1)], (6, 2), [])

    def test_a_hair_beyond_the_peg(self):
        self.tells((-1000, -1), [(0, 0, None, 1)], (1001, 1), [(0, 0)])
        self.tells((-1000, -1), [(0, None, 0, 1)], (1001, 1), [])
        self.tells((-1001, -1), [(0, 0, None, 1)], (1000, 1), [])
        self.tells((-1001, -1), [(0, None, 0, 1)], (1000, 1), [(0, 0)])


class SeveralLines(Pulling):
    def test_straight(self):
        self.tells((-1, 1), [(0, 0, 2, 1), (2, 0, None, 1), (4, None, 2, 1)], (5, 1), [])

    def test_bent_at_both_hands(self):
        self.tells((-2, 0), [(0, 3, None, 1), (4, None, -3, 1)], (6, 0), [(0, 3), (4, -3)])
        self.tells((-2, 0), [(0, 3, None, 1), (4, None, -3, 1), (8, 3, None, 1)], (10, 0), [(0, 3), (4, -3), (8, 3)])

    def test_bent_along_a_bow(self):
        bow = [(0, 0, None, 1), (2, 3, None, 1), (4, 4, None, 1), (6, 3, None, 1), (8, 0, None, 1)]
        self.tells((-1, -9), bow, (9, -9), [(0, 0), (2, 3), (4, 4), (6, 3), (8, 0)])
        self.tells((-1, 3), bow, (9, 3), [(4, 4)])
        self.tells((-1, 9), bow, (9, -9), [(6, 3), (8, 0)])

    def test_hollow_of_a_bow_is_not_touched(self):
        hollow = [(0, 4, None, 1), (2, 1, None, 1), (4, 0, None, 1), (6, 1, None, 1), (8, 4, None, 1)]
        self.tells((-1, 0), hollow, (9, 0), [(0, 4), (8, 4)])

    def test_upper_peg_of_one_line_and_lower_peg_of_the_next(self):
        self.tells((-4, 6), [(0, None, 1, 1), (2, 2, None, 1)], (6, -3), [(0, 1), (2, 2)])

    def test_the_peg_that_is_farthest_out_in_height_alone_is_not_enough(self):
        # Seen from the straight way the lower peg at 8 is farther out than the higher one at 0.
        self.tells((-8, 16), [(0, 13, None, 1), (8, 11, None, 1)], (16, -8), [(8, 11)])

    def test_pegs_in_one_straight_line(self):
        self.tells((-2, -1), [(0, 0, None, 1), (2, 0, None, 1), (4, 0, None, 1)], (6, -1), [(0, 0), (4, 0)])
        self.tells((-2, -9), [(0, 0, None, 1), (2, 3, None, 1), (4, 6, None, 1)], (6, 2), [(0, 0), (4, 6)])
        self.tells((-2, -3), [(0, 0, None, 1), (2, 3, None, 1), (4, 6, None, 1)], (6, 2), [(4, 6)])
        self.tells((-2, -3), [(0, 0, None, 1), (2, None, 3, 1), (4, 6, None, 1)], (6, 9), [])

    def test_all_pegs_at_one_height(self):
        slalom = [(x, 0, None, 1) if x % 4 == 0 else (x, None, 0, 1) for x in range(0, 24, 2)]
        self.tells((-1, 0), slalom, (23, 0), [])
        self.tells((-1, 5), slalom, (23, 0), [(2, 0)])
        self.tells((-1, 5), slalom, (23, -5), [(2, 0), (20, 0)])
        self.tells((-1, -5), slalom, (23, 5), [(0, 0), (22, 0)])
        over = [(x, 0, None, 1) for x in range(0, 24, 2)]
        self.tells((-1, -1), over, (23, -1), [(0, 0), (22, 0)])
        self.tells((-1, 0), over, (23, -1), [(22, 0)])


class TurnsAbout(Pulling):
    def test_one_peg_taken_by_two_gates(self):
        row = [(0, None, 0, 1), (0, 0, None, -1)]
        self.tells((-2, -1), row, (-2, 1), [(0, 0)])
        self.tells((-2, 1), row, (-2, -1), [(0, 0)])
        self.tells((-2, 1), row, (-4, 2), [(0, 0)])

    def test_one_peg_taken_among_several_gates(self):
        row = [(-4, 0, None, 1), (0, None, 0, 1), (0, 0, 6, -1), (-4, 0, None, -1)]
        self.tells((-6, 1), row, (-6, 5), [(0, 0)])
        self.tells((-6, -1), row, (-6, 5), [(-4, 0), (0, 0)])

    def test_straight_back_and_home(self):
        row = [(0, None, 0, 1), (0, 0, None, -1)]
        self.tells((-2, 0), row, (-2, 0), [(0, 0)])
        self.tells((-2, 0), row, (-1, 0), [(0, 0)])
        self.tells((-2, 7), row, (-2, 7), [(0, 0)])

    def test_round_several_pegs_and_home(self):
        ring = [(0, None, 0, 1), (4, None, 0, 1), (4, 4, None, -1), (0, 4, None, -1)]
        self.tells((-2, 2), ring, (-2, 2), [(0, 0), (4, 0), (4, 4), (0, 4)])
        inside = [(4, None, 0, 1), (4, 4, None, -1), (0, 4, None, -1), (0, None, 0, 1)]
        self.tells((2, 2), inside, (2, 2), [(4, 0), (4, 4), (0, 4), (0, 0)])
        # The same again with a peg in the midst of each side, and one within.
        ring = [(0, None, 0, 1), (2, None, 0, 1), (4, None, 0, 1), (4, 4, None, -1), (2, 4, None, -1), (0, 4, None, -1)]
        self.tells((-2, 2), ring, (-2, 2), [(0, 0), (4, 0), (4, 4), (0, 4)])

    def test_pegs_between_the_two_gates(self):
        self.tells((-2, 0), [(0, 0, 2, 1), (0, 2, 4, -1)], (-2, 4), [(0, 2)])
        self.tells((-2, 0), [(0, 0, 2, 1), (0, 4, 6, -1)], (-2, 6), [(0, 2), (0, 4)])
        self.tells((-2, 0), [(0, None, 0, 1), (0, 6, None, -1)], (-2, 6), [(0, 0), (0, 6)])
        self.tells((-2, 9), [(0, None, 0, 1), (0, 6, None, -1)], (-2, -9), [(0, 0), (0, 6)])

    def test_pegs_straight_above_one_another(self):
        # Each turn goes on upwards to the next peg of the line.
        climb = [(0, 2 * k, 2 * k + 2, 1 if k % 2 == 0 else -1) for k in range(10)]
        self.tells((-2, 1), climb, (-2, 19), [(0, 2), (0, 18)])
        self.tells((-2, 1), climb[:9], (2, 19), [(0, 2), (0, 16)])
        self.tells((-2, 1), climb[:2], (-2, 19), [(0, 2)])

    def test_straight_back_along_the_line(self):
        row = [(0, None, 0, 1), (0, 4, None, -1), (0, None, 0, 1)]
        self.tells((-2, 0), row, (2, 0), [(0, 0), (0, 4), (0, 0)])
        row = [(0, None, 0, 1), (0, 4, 8, -1), (0, -4, 0, 1)]
        self.tells((-2, 0), row, (2, 0), [(0, 0), (0, 4), (0, 0)])
        row = [(0, None, 0, 1), (0, 0, 4, -1), (0, 8, None, 1)]
        self.tells((-2, 0), row, (2, 8), [(0, 0), (0, 8)])

    def test_turns_to_both_hands(self):
        row = [(0, None, 0, 1), (4, None, 0, 1), (4, 0, None, -1), (0, 0, 6, -1), (0, 6, None, 1)]
        self.tells((-2, -3), row, (2, 6), [(4, 0), (0, 6)])

    def test_way_out_that_is_hidden_by_pegs_on_the_line(self):
        # Leaving upwards on the far side of its own line the rope still bends at the last peg of it.
        self.tells((-2, 1), [(0, 0, 2, 1), (0, 4, None, -1)], (-1, 90), [(0, 2), (0, 4)])


class AllTheWayRound(Pulling):
    BELOW, ABOVE = (0, None, 0, 1), (0, 0, None, -1)

    def test_straight_on_behind_a_turn_does_not_show(self):
        self.tells((-2, 0), [self.BELOW, self.ABOVE, self.BELOW], (2, 0), [])
        self.tells((-2, -3), [self.BELOW, self.ABOVE, self.BELOW], (4, 6), [])
        self.tells((-2, 0), [self.BELOW, self.ABOVE] * 300 + [self.BELOW], (2, 0), [])

    def test_bent_behind_a_turn_shows(self):
        self.tells((-2, 0), [self.BELOW, self.ABOVE, self.BELOW], (2, 1), [(0, 0)])
        self.tells((-2, 0), [self.BELOW, self.ABOVE, self.BELOW], (2, -1), [(0, 0)])
        self.tells((-2, 0), [self.BELOW, self.ABOVE] * 2, (-2, 0), [(0, 0)])
        self.tells((-2, 0), [self.BELOW, self.ABOVE] * 300 + [self.BELOW], (2, -1), [(0, 0)])

    def test_straight_on_along_the_line_does_not_show(self):
        row = [(0, 4, None, -1), (0, -4, 0, 1), (0, 0, 4, -1), (0, None, -4, 1)]
        self.tells((2, 6), row, (2, -6), [(0, 4), (0, -4)])
        # Without the turn round the peg in the midst the list is the same.
        self.tells((2, 6), [(0, 4, None, -1), (0, None, -4, 1)], (2, -6), [(0, 4), (0, -4)])

    def test_turn_in_the_midst_of_a_bent_rope(self):
        row = [(0, 0, None, 1), (4, 0, None, 1), (4, None, 0, -1), (4, 0, None, 1), (8, 0, None, 1)]
        self.tells((-2, -1), row, (10, -1), [(0, 0), (8, 0)])
        row = [(0, 0, None, 1), (4, 1, None, 1), (4, None, 1, -1), (4, 1, None, 1), (8, 0, None, 1)]
        self.tells((-2, -1), row, (10, -1), [(0, 0), (4, 1), (8, 0)])
        row = [(0, 0, None, 1), (4, -1, None, 1), (4, None, -1, -1), (4, -1, None, 1), (8, 0, None, 1)]
        self.tells((-2, -1), row, (10, -1), [(0, 0), (4, -1), (8, 0)])


class Wound(Pulling):
    def test_round_twelve_pegs(self):
        xs = [0, 4, 8, 12]
        ring = [(x, None, 0, 1) for x in xs] + [(x, 8, None, -1) for x in reversed(xs)]
        corners = [(0, 0), (12, 0), (12, 8), (0, 8)]
        self.tells((-2, 4), ring * 300, (-2, 4), corners * 300)
        self.tells((-2, 4), ring * 300 + ring[:2], (6, -1), corners * 300 + [(0, 0)])

    def test_round_a_bow_of_twelve_pegs(self):
        lows = [(2 * k, k * k - 11 * k) for k in range(12)]
        # The upper side is straight from the first peg to the last one.
        ring = [(x, None, y, 1) for x, y in lows] + [(x, y, None, -1) for x, y in reversed(lows)]
        self.tells((-2, 20), ring * 250, (-2, 20), lows * 250)
        # From its own height it comes in past the first three pegs.
        self.tells((-2, 0), ring * 250, (-2, 20), (lows * 250)[3:])

    def test_round_twelve_pegs_on_one_line(self):
        ring = [(0, None, 0, 1), (0, 22, None, -1)]
        self.tells((-2, 11), ring * 400, (-2, 11), [(0, 0), (0, 22)] * 400)
        self.tells((-2, 11), ring * 400 + ring[:1], (2, 11), [(0, 0), (0, 22)] * 400 + [(0, 0)])
        inner = [(0, 4, 6, 1), (0, 16, 18, -1)]
        self.tells((-2, 11), inner * 400, (-2, 11), [(0, 6), (0, 16)] * 400)

    def test_round_twelve_pegs_at_one_height(self):
        xs = list(range(0, 24, 2))
        ring = [(x, None, 0, 1) for x in xs] + [(x, 0, None, -1) for x in reversed(xs)]
        self.tells((-1, 0), ring * 300, (-1, 0), [(22, 0)] + [(0, 0), (22, 0)] * 299)
        self.tells((-1, 5), ring * 300, (-1, 5), [(0, 0), (22, 0)] * 300)

    def test_in_and_out_again(self):
        xs = [0, 4, 8, 12]
        ring = [(x, None, 0, 1) for x in xs] + [(x, 8, None, -1) for x in reversed(xs)]
        through = [(0, 0, 4, 1), (0, 4, 8, -1)]
        corners = [(0, 0), (12, 0), (12, 8), (0, 8)]
        told = corners * 100 + [(0, 4)] + corners[::-1] * 100
        self.tells((-2, 4), ring * 100 + through + from_end(ring) * 100, (-2, 4), told)


class ManyFigures(Pulling):
    def test_thirty_figures(self):
        self.tells((-THIRTY, -1), [(0, 0, None, 1)], (THIRTY, 1), [])
        self.tells((-THIRTY, -1), [(0, 0, None, 1)], (THIRTY + 1, 1), [(0, 0)])
        self.tells((-THIRTY, -1), [(0, None, 0, 1)], (THIRTY + 1, 1), [])
        self.tells((-THIRTY, -1), [(0, None, 0, 1)], (THIRTY - 1, 1), [(0, 0)])
        row = [(0, None, -THIRTY, 1), (THIRTY, THIRTY, None, 1), (THIRTY, THIRTY - 1, THIRTY, -1)]
        self.tells((-1, 0), row, (1, 0), [(0, -THIRTY), (THIRTY, THIRTY)])

    def test_straight_on_by_a_hair(self):
        row = [(0, 0, None, 1), (THIRTY, THIRTY, None, 1), (2 * THIRTY, 2 * THIRTY, None, 1)]
        self.tells((-1, -9), row, (2 * THIRTY + 1, 0), [(0, 0), (2 * THIRTY, 2 * THIRTY)])
        row[1] = (THIRTY, THIRTY + 1, None, 1)
        self.tells((-1, -9), row, (2 * THIRTY + 1, 0), [(0, 0), (THIRTY, THIRTY + 1), (2 * THIRTY, 2 * THIRTY)])
        row[1] = (THIRTY, THIRTY - 1, None, 1)
        self.tells((-1, -9), row, (2 * THIRTY + 1, 0), [(0, 0), (2 * THIRTY, 2 * THIRTY)])

    def test_thousands_of_figures(self):
        # No assertEqual: numbers of this size cannot be shown when it fails.
        start, end = (-HUGE, -1), (HUGE + 1, 1)
        self.assertTrue(pulled(start, [(0, 0, None, 1)], end) == [start, (0, 0), end])
        self.assertTrue(pulled(start, [(0, None, 0, 1)], end) == [start, end])
        self.assertTrue(pulled(start, [(1, HUGE, None, 1)], end) == [start, (1, HUGE), end])


class Told(Pulling):
    ROWS = [[], [(0, 0, None, 1)], [(0, None, 0, 1), (0, 0, None, -1)]]

    def test_kinds(self):
        for row in self.ROWS:
            told = pulled((-2, -1), row, (2, -1))
            self.assertIs(type(told), list)
            for spot in told:
                self.assertIs(type(spot), tuple)
                self.assertEqual([type(number) for number in spot], [int, int])

    def test_what_is_told_is_the_askers_own(self):
        for row in self.ROWS:
            kept = list(row)
            told = pulled((-2, -1), row, (2, -1))
            again = list(told)
            told.append((9, 9))
            told[0] = (8, 8)
            self.assertEqual(row, kept)
            self.assertEqual(pulled((-2, -1), row, (2, -1)), again)
            told = pulled((-2, -1), row, (2, -1))
            row.clear()
            self.assertEqual(told, again)
            row.extend(kept)


if __name__ == "__main__":
    unittest.main()

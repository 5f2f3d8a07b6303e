"""The refusals."""

import unittest

from tautline.errors import NoEnds, NoPegs, NoRope, RopeError


class Errors(unittest.TestCase):
    def test_any_refusal_is_a_value_error(self):
        self.assertEqual(RopeError.__bases__, (ValueError,))

    def test_each_stands_straight_under_rope_error(self):
        for refusal in (NoPegs, NoEnds, NoRope):
            self.assertEqual(refusal.__bases__, (RopeError,))

    def test_each_is_none_of_the_others(self):
        made = {NoPegs: NoPegs(), NoEnds: NoEnds(), NoRope: NoRope(0)}
        for own, refusal in made.items():
            self.assertIsInstance(refusal, RopeError)
            self.assertIsInstance(refusal, ValueError)
            for kind in made:
                self.assertEqual(isinstance(refusal, kind), kind is own)

    def test_no_rope_keeps_its_place(self):
        for place in (0, 1, 7, 199, 10 ** 5000):
            self.assertTrue(NoRope(place).place == place)
        first, second = NoRope(3), NoRope(4)
        self.assertEqual((first.place, second.place), (3, 4))

    def test_no_rope_is_made_of_a_place(self):
        with self.assertRaises(TypeError):
            NoRope()


if __name__ == "__main__":
    unittest.main()

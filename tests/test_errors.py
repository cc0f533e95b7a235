import unittest

from sumtold import errors


class RefusalTest(unittest.TestCase):
    def refusals(self):
        return [errors.BadWeb, errors.NoDeed, errors.BadBooks, errors.NoNear, errors.NoText, errors.NoRow]

    def test_any_refusal_is_a_value_error(self):
        self.assertEqual(errors.SumError.__bases__, (ValueError,))

    def test_each_stands_straight_under_sum_error(self):
        for refusal in self.refusals():
            self.assertEqual(refusal.__bases__, (errors.SumError,), refusal)

    def test_they_are_six_unlike_ones(self):
        self.assertEqual(len(set(self.refusals())), 6)

    def test_no_near_has_its_spell(self):
        for at in (-1, 0, 1, 59):
            self.assertEqual(errors.NoNear(at).at, at)

    def test_no_near_keeps_its_spell_when_caught_as_any_refusal(self):
        with self.assertRaises(errors.SumError) as caught:
            raise errors.NoNear(3)
        self.assertEqual(caught.exception.at, 3)

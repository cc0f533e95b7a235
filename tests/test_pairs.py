import unittest
from fractions import Fraction

from sumtold import pairs
from tests.odd import odd_things

GREAT = 123456789012345678901234567890123456789012345678901234567890
OTHER_GREAT = 987654321098765432109876543210987654321098765432109876543210
NUMBERS = (0, 1, -1, 2, -2, 3, 6, -10, 12, 97, GREAT, -GREAT, OTHER_GREAT, -OTHER_GREAT)


def fraction(one):
    return Fraction(one[0], one[1])


def as_pair(worth):
    return (worth.numerator, worth.denominator)


def some_pairs():
    return [as_pair(Fraction(num, den)) for num in NUMBERS for den in NUMBERS if den != 0]


class PairTest(unittest.TestCase):
    def test_small_ones(self):
        self.assertEqual(pairs.pair(3, 4), (3, 4))
        self.assertEqual(pairs.pair(6, 4), (3, 2))
        self.assertEqual(pairs.pair(-6, 4), (-3, 2))
        self.assertEqual(pairs.pair(12, 4), (3, 1))
        self.assertEqual(pairs.pair(4, 12), (1, 3))

    def test_second_number_below_nought(self):
        self.assertEqual(pairs.pair(6, -4), (-3, 2))
        self.assertEqual(pairs.pair(-6, -4), (3, 2))
        self.assertEqual(pairs.pair(1, -1), (-1, 1))

    def test_nought_over_anything(self):
        for den in NUMBERS:
            if den != 0:
                self.assertEqual(pairs.pair(0, den), (0, 1))

    def test_sixty_figures(self):
        self.assertEqual(pairs.pair(GREAT * 35, GREAT * -21), (-5, 3))
        self.assertEqual(pairs.pair(GREAT, 1), (GREAT, 1))
        self.assertEqual(pairs.pair(-(10 ** 60), 10 ** 59), (-10, 1))
        self.assertEqual(pairs.pair(10 ** 60 + 1, 10 ** 60), (10 ** 60 + 1, 10 ** 60))

    def test_all_sorts(self):
        for num in NUMBERS:
            for den in NUMBERS:
                if den != 0:
                    told = pairs.pair(num, den)
                    self.assertEqual(told, as_pair(Fraction(num, den)))
                    self.assertIs(pairs.is_pair(told), True)


class IsPairTest(unittest.TestCase):
    def test_pairs(self):
        for thing in [(0, 1), (1, 1), (-1, 1), (3, 2), (-3, 2), (5, 1), (1, 10 ** 60), (GREAT, 1), (-GREAT, GREAT + 1)]:
            self.assertIs(pairs.is_pair(thing), True, thing)

    def test_common_divisors(self):
        for thing in [(0, 2), (0, GREAT), (2, 2), (6, 4), (-6, 4), (10, 5), (GREAT * 7, OTHER_GREAT * 7)]:
            self.assertIs(pairs.is_pair(thing), False, thing)

    def test_second_number_nought_or_below(self):
        for thing in [(1, 0), (0, 0), (-1, 0), (1, -1), (3, -2), (0, -1), (-3, -2)]:
            self.assertIs(pairs.is_pair(thing), False, thing)

    def test_truths(self):
        for thing in [(True, 1), (1, True), (False, 1), (0, True), (True, True), (False, True), True, False]:
            self.assertIs(pairs.is_pair(thing), False, thing)

    def test_other_kinds_and_lengths(self):
        for thing in [[1, 2], [3, 1], (1,), (1, 2, 3), (), ("1", "2"), ("1", 2), (1, None), "12", "1/2", None, 1, {1: 2}]:
            self.assertIs(pairs.is_pair(thing), False, thing)

    def test_anything(self):
        for thing in odd_things():
            self.assertIs(pairs.is_pair(thing), False)
            self.assertIs(pairs.is_pair((thing, "x")), False)
            self.assertIs(pairs.is_pair(("x", thing)), False)
            self.assertIs(pairs.is_pair((1, [thing])), False)


class ReckoningTest(unittest.TestCase):
    def test_small_ones(self):
        self.assertEqual(pairs.plus((1, 2), (1, 3)), (5, 6))
        self.assertEqual(pairs.plus((1, 2), (1, 2)), (1, 1))
        self.assertEqual(pairs.plus((1, 2), (-1, 2)), (0, 1))
        self.assertEqual(pairs.less((1, 2), (1, 3)), (1, 6))
        self.assertEqual(pairs.less((1, 3), (1, 2)), (-1, 6))
        self.assertEqual(pairs.less((7, 5), (7, 5)), (0, 1))
        self.assertEqual(pairs.times((2, 3), (3, 4)), (1, 2))
        self.assertEqual(pairs.times((-2, 3), (3, 2)), (-1, 1))
        self.assertEqual(pairs.times((0, 1), (3, 2)), (0, 1))

    def test_all_sorts(self):
        for one in some_pairs():
            for other in some_pairs():
                mine, yours = fraction(one), fraction(other)
                self.assertEqual(pairs.plus(one, other), as_pair(mine + yours))
                self.assertEqual(pairs.less(one, other), as_pair(mine - yours))
                self.assertEqual(pairs.times(one, other), as_pair(mine * yours))
                self.assertIs(pairs.below(one, other), mine < yours)


class BelowTest(unittest.TestCase):
    def test_like_pairs(self):
        for one in some_pairs():
            self.assertIs(pairs.below(one, one), False)

    def test_either_way(self):
        for one, other in [((1, 3), (1, 2)), ((-1, 2), (-1, 3)), ((-1, 1), (0, 1)), ((0, 1), (1, GREAT))]:
            self.assertIs(pairs.below(one, other), True)
            self.assertIs(pairs.below(other, one), False)

    def test_great_ones_side_by_side(self):
        one, other = (GREAT, GREAT + 1), (GREAT + 1, GREAT + 2)
        self.assertIs(pairs.below(one, other), True)
        self.assertIs(pairs.below(other, one), False)


class NearestTest(unittest.TestCase):
    def test_halves(self):
        for num, told in [(1, 1), (3, 2), (5, 3), (-1, 0), (-3, -1), (-5, -2)]:
            self.assertEqual(pairs.nearest((num, 2)), told)

    def test_beside_halves(self):
        self.assertEqual(pairs.nearest((49, 100)), 0)
        self.assertEqual(pairs.nearest((51, 100)), 1)
        self.assertEqual(pairs.nearest((-49, 100)), 0)
        self.assertEqual(pairs.nearest((-51, 100)), -1)
        self.assertEqual(pairs.nearest((2 * GREAT + 1, 2)), GREAT + 1)
        self.assertEqual(pairs.nearest((-2 * GREAT - 1, 2)), -GREAT)
        self.assertEqual(pairs.nearest((2 * 10 ** 60 + 1, 4 * 10 ** 60)), 1)
        self.assertEqual(pairs.nearest((2 * 10 ** 60 - 1, 4 * 10 ** 60)), 0)

    def test_thirds(self):
        for num, told in [(1, 0), (2, 1), (4, 1), (5, 2), (-1, 0), (-2, -1), (-4, -1), (-5, -2)]:
            self.assertEqual(pairs.nearest((num, 3)), told)

    def test_whole_numbers(self):
        for number in NUMBERS:
            self.assertEqual(pairs.nearest((number, 1)), number)

    def test_no_other_is_nearer_and_no_greater_alike_near(self):
        for one in some_pairs():
            told, worth = pairs.nearest(one), fraction(one)
            self.assertLessEqual(abs(told - worth), abs(told - 1 - worth))
            self.assertLess(abs(told - worth), abs(told + 1 - worth))


class KindTest(unittest.TestCase):
    def test_numbers_told_are_ints_and_no_truths(self):
        for told in [pairs.pair(0, 5), pairs.pair(5, 5), pairs.plus((1, 2), (1, 2)), pairs.part(8, 3)]:
            self.assertEqual([type(number) for number in told], [int, int])
        self.assertIs(type(pairs.nearest((1, 2))), int)
        self.assertIs(type(pairs.halvings(0)), int)

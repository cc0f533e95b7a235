import unittest
from fractions import Fraction

from sumtold import pairs
from tests.odd import odd_things

NUMBERS = (0, 1, -1, 2, -2, 3, -3, 4, -8, 12, -40, 96, 1024, -1025, 3 * 2 ** 70, -5 * 2 ** 101, 10 ** 60 + 1, -10 ** 60)
POWERS = (0, 1, 2, 3, 5, 8, 64, 99, 100, 101, 300)


def fraction(one):
    return Fraction(one[0], 2 ** one[1])


def as_pair(worth):
    return (worth.numerator, worth.denominator)


def as_part(worth):
    return (worth.numerator, worth.denominator.bit_length() - 1)


def some_parts():
    return sorted(set(as_part(Fraction(num, 2 ** e)) for num in NUMBERS for e in POWERS))


class PartTest(unittest.TestCase):
    def test_small_ones(self):
        self.assertEqual(pairs.part(3, 2), (3, 2))
        self.assertEqual(pairs.part(6, 2), (3, 1))
        self.assertEqual(pairs.part(12, 2), (3, 0))
        self.assertEqual(pairs.part(24, 2), (6, 0))
        self.assertEqual(pairs.part(-6, 2), (-3, 1))
        self.assertEqual(pairs.part(-24, 2), (-6, 0))
        self.assertEqual(pairs.part(-1, 1), (-1, 1))

    def test_nought(self):
        for e in POWERS:
            self.assertEqual(pairs.part(0, e), (0, 0))

    def test_even_numbers_stay_even_without_halvings(self):
        for num in NUMBERS:
            self.assertEqual(pairs.part(num, 0), (num, 0))

    def test_high_powers(self):
        self.assertEqual(pairs.part(2 ** 100, 100), (1, 0))
        self.assertEqual(pairs.part(2 ** 100, 101), (1, 1))
        self.assertEqual(pairs.part(2 ** 101, 100), (2, 0))
        self.assertEqual(pairs.part(-3 * 2 ** 1000, 1005), (-3, 5))
        self.assertEqual(pairs.part(1, 5000), (1, 5000))

    def test_all_sorts(self):
        for num in NUMBERS:
            for e in POWERS:
                told = pairs.part(num, e)
                self.assertEqual(told, as_part(Fraction(num, 2 ** e)))
                self.assertIs(pairs.is_part(told), True)


class IsPartTest(unittest.TestCase):
    def test_parts(self):
        for thing in [(0, 0), (1, 0), (2, 0), (-4, 0), (10 ** 60, 0), (1, 1), (-1, 1), (-3, 7), (10 ** 60 + 1, 100)]:
            self.assertIs(pairs.is_part(thing), True, thing)

    def test_even_numbers_by_a_power(self):
        for thing in [(0, 1), (0, 100), (2, 1), (-2, 1), (6, 3), (-10 ** 60, 100)]:
            self.assertIs(pairs.is_part(thing), False, thing)

    def test_power_below_nought(self):
        for thing in [(0, -1), (1, -1), (2, -1), (3, -100)]:
            self.assertIs(pairs.is_part(thing), False, thing)

    def test_truths(self):
        for thing in [(True, 0), (0, False), (1, True), (False, 0), (False, False), (True, True), True, False]:
            self.assertIs(pairs.is_part(thing), False, thing)

    def test_other_kinds_and_lengths(self):
        for thing in [[1, 0], (1,), (1, 0, 0), (), ("1", "0"), ("1", 0), (1, None), "10", "3>>2", None, 1, {1: 0}]:
            self.assertIs(pairs.is_part(thing), False, thing)

    def test_anything(self):
        for thing in odd_things():
            self.assertIs(pairs.is_part(thing), False)
            self.assertIs(pairs.is_part((thing, "x")), False)
            self.assertIs(pairs.is_part(("x", thing)), False)
            self.assertIs(pairs.is_part((1, [thing])), False)


class ReckoningTest(unittest.TestCase):
    def test_small_ones(self):
        self.assertEqual(pairs.part_plus((1, 1), (1, 1)), (1, 0))
        self.assertEqual(pairs.part_plus((1, 2), (1, 1)), (3, 2))
        self.assertEqual(pairs.part_plus((1, 1), (1, 2)), (3, 2))
        self.assertEqual(pairs.part_plus((3, 2), (-3, 2)), (0, 0))
        self.assertEqual(pairs.part_plus((2, 0), (4, 0)), (6, 0))
        self.assertEqual(pairs.part_less((1, 1), (1, 2)), (1, 2))
        self.assertEqual(pairs.part_less((1, 2), (1, 1)), (-1, 2))
        self.assertEqual(pairs.part_less((3, 2), (1, 2)), (1, 1))
        self.assertEqual(pairs.part_less((5, 100), (5, 100)), (0, 0))

    def test_over(self):
        self.assertEqual(pairs.part_over((3, 2), (1, 1)), (3, 2))
        self.assertEqual(pairs.part_over((1, 1), (3, 2)), (2, 3))
        self.assertEqual(pairs.part_over((3, 0), (-1, 3)), (-24, 1))
        self.assertEqual(pairs.part_over((-3, 1), (-9, 1)), (1, 3))
        self.assertEqual(pairs.part_over((-3, 1), (9, 1)), (-1, 3))
        self.assertEqual(pairs.part_over((0, 0), (-7, 9)), (0, 1))
        self.assertEqual(pairs.part_over((1, 200), (1, 100)), (1, 2 ** 100))

    def test_all_sorts(self):
        for one in some_parts():
            for other in some_parts():
                mine, yours = fraction(one), fraction(other)
                self.assertEqual(pairs.part_plus(one, other), as_part(mine + yours))
                self.assertEqual(pairs.part_less(one, other), as_part(mine - yours))
                if other[0] != 0:
                    self.assertEqual(pairs.part_over(one, other), as_pair(mine / yours))


class HalvingsTest(unittest.TestCase):
    def test_small_ones(self):
        told = [pairs.halvings(many) for many in range(10)]
        self.assertEqual(told, [0, 1, 2, 2, 3, 3, 3, 3, 4, 4])

    def test_powers_of_two_and_beside_them(self):
        for c in range(2, 200):
            self.assertEqual(pairs.halvings(2 ** c - 1), c)
            self.assertEqual(pairs.halvings(2 ** c), c + 1)
            self.assertEqual(pairs.halvings(2 ** c + 1), c + 1)

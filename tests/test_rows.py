import unittest

from sumtold import pairs

ROWS = (
    ((5, 0), (1, 0)),
    ((3, 2), (0, 0)),
    ((0, 0), (-1, 1), (7, 3)),
    ((-10 ** 12, 0), (10 ** 60 + 1, 100), (0, 0), (1, 1)),
    ((1, 1), (2, 0), (-3, 2), (0, 0), (0, 0), (5, 5), (12, 0), (-7, 3)),
)


class OwnRowTest(unittest.TestCase):
    def test_numbers_and_the_weight(self):
        self.assertEqual(pairs.own_row((5,)), ((5, 0), (1, 0)))
        self.assertEqual(pairs.own_row((0, -4)), ((0, 0), (-4, 0), (1, 0)))
        self.assertEqual(pairs.own_row((1, 0, 10 ** 60)), ((1, 0), (0, 0), (10 ** 60, 0), (1, 0)))
        self.assertEqual(pairs.own_row(tuple(range(-3, 4)))[3:], ((0, 0), (1, 0), (2, 0), (3, 0), (1, 0)))


class ZeroRowTest(unittest.TestCase):
    def test_noughts_and_the_weight(self):
        self.assertEqual(pairs.zero_row(1), ((0, 0), (0, 0)))
        self.assertEqual(pairs.zero_row(3), ((0, 0), (0, 0), (0, 0), (0, 0)))
        self.assertEqual(pairs.zero_row(7), ((0, 0),) * 8)


class RowReckoningTest(unittest.TestCase):
    def test_plus(self):
        one, other = ((1, 1), (0, 0), (3, 2)), ((1, 1), (-1, 3), (1, 0))
        self.assertEqual(pairs.row_plus(one, other), ((1, 0), (-1, 3), (7, 2)))

    def test_less(self):
        one, other = ((1, 1), (0, 0), (3, 2)), ((1, 1), (-1, 3), (1, 0))
        self.assertEqual(pairs.row_less(one, other), ((0, 0), (1, 3), (-1, 2)))
        self.assertEqual(pairs.row_less(other, one), ((0, 0), (-1, 3), (1, 2)))

    def test_part_by_part(self):
        for row in ROWS:
            for other in ROWS:
                many = min(len(row), len(other))
                one, two = row[:many], other[:many]
                added = tuple([pairs.part_plus(one[at], two[at]) for at in range(many)])
                lessened = tuple([pairs.part_less(one[at], two[at]) for at in range(many)])
                self.assertEqual(pairs.row_plus(one, two), added)
                self.assertEqual(pairs.row_less(one, two), lessened)

    def test_with_noughts(self):
        for row in ROWS:
            noughts = pairs.zero_row(len(row) - 1)
            self.assertEqual(pairs.row_plus(row, noughts), row)
            self.assertEqual(pairs.row_less(row, noughts), row)

    def test_less_itself(self):
        for row in ROWS:
            self.assertEqual(pairs.row_less(row, row), pairs.zero_row(len(row) - 1))


class RowHalvedTest(unittest.TestCase):
    def test_halved(self):
        row = ((6, 0), (0, 0), (-1, 1), (8, 0))
        self.assertEqual(pairs.row_halved(row, 1), ((3, 0), (0, 0), (-1, 2), (4, 0)))
        self.assertEqual(pairs.row_halved(row, 2), ((3, 1), (0, 0), (-1, 3), (2, 0)))
        self.assertEqual(pairs.row_halved(row, 100), ((3, 99), (0, 0), (-1, 101), (1, 97)))

    def test_halved_no_times(self):
        for row in ROWS:
            self.assertEqual(pairs.row_halved(row, 0), row)

    def test_as_many_halves_come_to_the_row(self):
        for row in ROWS:
            for c in range(6):
                self.assertEqual(pairs.row_times(pairs.row_halved(row, c), 2 ** c), row)


class RowTimesTest(unittest.TestCase):
    def test_times(self):
        row = ((3, 1), (0, 0), (-1, 2), (1, 0))
        self.assertEqual(pairs.row_times(row, 1), row)
        self.assertEqual(pairs.row_times(row, 2), ((3, 0), (0, 0), (-1, 1), (2, 0)))
        self.assertEqual(pairs.row_times(row, -4), ((-6, 0), (0, 0), (1, 0), (-4, 0)))
        self.assertEqual(pairs.row_times(row, 3), ((9, 1), (0, 0), (-3, 2), (3, 0)))

    def test_times_nought(self):
        for row in ROWS:
            self.assertEqual(pairs.row_times(row, 0), pairs.zero_row(len(row) - 1))

    def test_times_one_less_is_the_row_less_twice_itself(self):
        for row in ROWS:
            self.assertEqual(pairs.row_times(row, -1), pairs.row_less(pairs.row_less(row, row), row))

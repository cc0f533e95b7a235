import itertools
import unittest

from sumtold import rolls


def entry(name, names="", life=1, version=1, numbers=(0,)):
    return (name, life, version, numbers, tuple(names))


class MergedTest(unittest.TestCase):
    def both_ways(self, one, other, told):
        self.assertEqual(rolls.merged(one, other), told)
        self.assertEqual(rolls.merged(other, one), told)

    def test_names_in_one_roll_alone(self):
        a, b, c, d = [entry(name) for name in "abcd"]
        self.both_ways((a, c), (b, d), (a, b, c, d))
        self.both_ways((d,), (a,), (a, d))
        self.both_ways((a, b), (c, d), (a, b, c, d))
        self.both_ways((b,), (a, b, c), (a, b, c))

    def test_names_are_compared_as_texts(self):
        short, long, other = entry("b"), entry("ab"), entry("a")
        self.both_ways((short,), (other, long), (other, long, short))

    def test_greater_life(self):
        old, new = entry("a", life=1, version=9), entry("a", life=2, version=1)
        self.both_ways((old,), (new,), (new,))

    def test_greater_version_of_like_lives(self):
        old, new = entry("a", "b", life=3, version=4), entry("a", life=3, version=5)
        self.both_ways((old,), (new,), (new,))

    def test_versions_are_compared_as_numbers(self):
        old, new = entry("a", life=9, version=9), entry("a", life=9, version=10)
        self.both_ways((old,), (new,), (new,))
        old, new = entry("a", life=9, version=9), entry("a", life=10, version=1)
        self.both_ways((old,), (new,), (new,))

    def test_like_ones_are_the_first_roll_s(self):
        one, other = entry("a", "b", numbers=(1,)), entry("a", "c", numbers=(2,))
        self.assertEqual(rolls.merged((one,), (other,)), (one,))
        self.assertEqual(rolls.merged((other,), (one,)), (other,))

    def test_each_name_by_itself(self):
        one = (entry("a", version=2), entry("b", version=1), entry("c", numbers=(1,)))
        other = (entry("a", version=1), entry("b", version=2), entry("c", numbers=(2,)), entry("d"))
        self.assertEqual(rolls.merged(one, other), (one[0], other[1], one[2], other[3]))
        self.assertEqual(rolls.merged(other, one), (one[0], other[1], other[2], other[3]))

    def test_the_empty_roll(self):
        roll = (entry("a", "b"), entry("b", "a"))
        self.both_ways(roll, (), roll)
        self.assertEqual(rolls.merged((), ()), ())

    def test_with_itself(self):
        roll = (entry("a", "b"), entry("b", "ac", 3, 7, (1,)), entry("c", "b"))
        self.assertEqual(rolls.merged(roll, roll), roll)


class SureOfTest(unittest.TestCase):
    def test_one_hand_alone(self):
        self.assertEqual(rolls.sure_of((entry("a", numbers=(5, -7)),), "a"), (1, ((5, "a"), (-7, "a"))))

    def test_others_to_whom_no_ties_lead(self):
        roll = (entry("a", numbers=(1,)), entry("b", "c", numbers=(9,)), entry("c", "b", numbers=(8,)), entry("d", "e"))
        self.assertEqual(rolls.sure_of(roll, "a"), (1, ((1, "a"),)))
        self.assertEqual(rolls.sure_of(roll, "b"), (2, ((9, "b"),)))
        self.assertEqual(rolls.sure_of(roll, "c"), (2, ((9, "b"),)))
        self.assertIsNone(rolls.sure_of(roll, "d"))

    def test_a_name_without_an_entry(self):
        self.assertIsNone(rolls.sure_of((), "a"))
        self.assertIsNone(rolls.sure_of((entry("a", "b"),), "b"))
        self.assertIsNone(rolls.sure_of((entry("a"), entry("c")), "b"))

    def test_an_entry_that_lacks(self):
        near = (entry("a", "b"), entry("c", "b"))
        far = (entry("a", "b"), entry("b", "ac"), entry("c", "bd"))
        self.assertIsNone(rolls.sure_of(near, "a"))
        for name in "abcd":
            self.assertIsNone(rolls.sure_of(far, name))

    def test_a_tie_named_by_one_end_alone(self):
        roll = (entry("a", "b"), entry("b"))
        self.assertIsNone(rolls.sure_of(roll, "a"))
        self.assertEqual(rolls.sure_of(roll, "b"), (1, ((0, "b"),)))

    def test_a_far_tie_named_by_one_end_alone(self):
        roll = (entry("a", "b"), entry("b", "ac"), entry("c", "bd"), entry("d"))
        for name in "abc":
            self.assertIsNone(rolls.sure_of(roll, name))
        self.assertEqual(rolls.sure_of(roll, "d"), (1, ((0, "d"),)))

    def test_a_tie_that_closes_a_ring_named_by_one_end_alone(self):
        roll = (entry("a", "bc"), entry("b", "ac"), entry("c", "b"))
        for name in "abc":
            self.assertIsNone(rolls.sure_of(roll, name))

    def test_a_chain(self):
        roll = (entry("a", "b", numbers=(3,)), entry("b", "ac", numbers=(1,)), entry("c", "b", numbers=(2,)))
        for name in "abc":
            self.assertEqual(rolls.sure_of(roll, name), (3, ((3, "a"),)))

    def test_each_number_by_itself(self):
        roll = (
            entry("a", "bc", 1, 1, (1, -5, 7)),
            entry("b", "ac", 2, 3, (2, -4, 6)),
            entry("c", "ab", 1, 9, (0, -9, 8)),
        )
        self.assertEqual(rolls.sure_of(roll, "c"), (3, ((2, "b"), (-4, "b"), (8, "c"))))

    def test_like_numbers(self):
        roll = (entry("b", "cd", numbers=(1, 5)), entry("c", "b", numbers=(4, 5)), entry("d", "b", numbers=(4, 2)))
        for name in "bcd":
            self.assertEqual(rolls.sure_of(roll, name), (3, ((4, "c"), (5, "b"))))

    def test_like_numbers_come_to_in_another_order(self):
        roll = (entry("a", "c", numbers=(4,)), entry("b", "d", numbers=(4,)), entry("c", "ad"), entry("d", "bc"))
        for name in "abcd":
            self.assertEqual(rolls.sure_of(roll, name), (4, ((4, "a"),)))

    def test_all_rolls_of_three_names(self):
        ways = [(one, other) for one in "abc" for other in "abc" if one != other]
        for there in itertools.product((False, True), repeat=3):
            for named in itertools.product((False, True), repeat=len(ways)):
                names = {name for name, is_there in zip("abc", there) if is_there}
                arrows = {way for way, is_named in zip(ways, named) if is_named and way[0] in names}
                roll = tuple(
                    entry(name, sorted(other for one, other in arrows if one == name), numbers=(ord(name),))
                    for name in sorted(names)
                )
                for name in "abc":
                    self.assertEqual(rolls.sure_of(roll, name), slow_sure(names, arrows, name))


def slow_sure(names, arrows, name):
    found = {name}
    for _ in range(3):
        found = found | {other for one, other in arrows if one in found}
    named = [(one, other) for one, other in arrows if one in found]
    if not found <= names or not all((other, one) in arrows for one, other in named):
        return None
    return (len(found), ((ord(max(found)), max(found)),))

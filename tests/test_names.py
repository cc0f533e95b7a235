import unittest

from sumtold import webs
from tests.odd import odd_things

MOST = 10 ** 12


class IsNameTest(unittest.TestCase):
    def test_names(self):
        for thing in ["a", "z", "ab", "hand", "abcdefgh", "zzzzzzzz", "turn"]:
            self.assertIs(webs.is_name(thing), True, thing)

    def test_lengths(self):
        for thing in ["", "abcdefghi", "a" * 1000]:
            self.assertIs(webs.is_name(thing), False, thing)

    def test_other_signs(self):
        for sign in ["A", "Z", "0", "9", " ", "_", "-", "`", "{", "\n", "\t", "\0", "\xe9", "\xdf", "\u0430", "\uff41", "\ud800"]:
            for thing in [sign, sign + "a", "a" + sign, "ab" + sign + "cd"]:
                self.assertIs(webs.is_name(thing), False, repr(thing))

    def test_other_kinds(self):
        for thing in [b"a", ["a"], ("a",), {"a": 1}, {"a"}, 1, None, True]:
            self.assertIs(webs.is_name(thing), False, thing)

    def test_anything(self):
        for thing in odd_things():
            self.assertIs(webs.is_name(thing), False)


class IsNumbersTest(unittest.TestCase):
    def test_numbers(self):
        for thing in [(0,), (5, -5), (1, 2, 3), (0, 0, 0)]:
            self.assertIs(webs.is_numbers(thing), True, thing)

    def test_lengths(self):
        for thing in [(), (1, 2, 3, 4), (0,) * 100]:
            self.assertIs(webs.is_numbers(thing), False, thing)

    def test_ends(self):
        for number, told in [(MOST, True), (-MOST, True), (MOST + 1, False), (-MOST - 1, False), (10 ** 60, False)]:
            self.assertIs(webs.is_numbers((number,)), told, number)
            self.assertIs(webs.is_numbers((0, number)), told, number)
            self.assertIs(webs.is_numbers((number, 0, 0)), told, number)

    def test_truths(self):
        for thing in [(True,), (False,), (1, True), (False, 0, 0), (0, 0, True), True]:
            self.assertIs(webs.is_numbers(thing), False, thing)

    def test_other_kinds(self):
        for thing in [[1], [1, 2, 3], 1, "1", ("1",), (None,), ((1,),), {1: 1}, {1}, None, range(2), b"ab"]:
            self.assertIs(webs.is_numbers(thing), False, thing)

    def test_anything(self):
        for thing in odd_things():
            self.assertIs(webs.is_numbers(thing), False)
            if not webs.is_numbers((thing,)):
                self.assertIs(webs.is_numbers((1, thing)), False)
                self.assertIs(webs.is_numbers((thing, 1, 1)), False)

    def test_only_two_odd_things_are_numbers_themselves(self):
        told = [thing for thing in odd_things() if webs.is_numbers((thing,))]
        self.assertEqual(told, [7, -1])

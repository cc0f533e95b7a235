import unittest

from sumtold import webs
from tests.odd import odd_things

OF_ONE = ("turn", "fall", "back", "fresh", "leave")
OF_NUMBERS = ("set", "join")
OF_TWO = ("tie", "cut")
WRONG_NAMES = ("", "A", "abcdefghi", "a1", None, 1, True, b"a", ("a",), ["a"])
WRONG_NUMBERS = ((), (1, 2, 3, 4), (10 ** 12 + 1,), (-10 ** 12 - 1,), (True,), [1], 1, None, "1", "a", ("1",))


def right_deeds():
    deeds = [(word, name) for word in OF_ONE for name in ("a", "abcdefgh")]
    deeds += [("come", k) for k in (0, 1, 59, 10 ** 30)]
    deeds += [(word, "a", numbers) for word in OF_NUMBERS for numbers in ((0,), (1, -2), (10 ** 12, -10 ** 12, 5))]
    deeds += [(word, one, other) for word in OF_TWO for one, other in (("a", "b"), ("b", "a"), ("z", "abcdefgh"))]
    return deeds


class IsDeedTest(unittest.TestCase):
    def wrong(self, thing):
        self.assertIs(webs.is_deed(thing), False)

    def test_each_word(self):
        self.assertEqual(len(set(deed[0] for deed in right_deeds())), 10)
        for deed in right_deeds():
            self.assertIs(webs.is_deed(deed), True, deed)

    def test_other_words(self):
        for word in ["Turn", "turns", "", "a", "take", "turn ", "TIE", "web", None, 1, b"turn", ("turn",), ["turn"]]:
            for rest in [("a",), (1,), ("a", (1,)), ("a", "b"), ()]:
                self.wrong((word,) + rest)

    def test_a_part_less(self):
        for deed in right_deeds():
            self.wrong(deed[:-1])
            self.wrong(deed[:1])
            self.wrong(deed[1:])
        self.wrong(())

    def test_a_part_more(self):
        for deed in right_deeds():
            for more in ["a", "c", 1, (1,), None, ()]:
                self.wrong(deed + (more,))
                self.wrong(deed + (more, more))

    def test_no_word_takes_the_parts_of_another(self):
        for word in OF_ONE:
            for rest in [(1,), ((1,),), ("a", "b"), ("a", (1,))]:
                self.wrong((word,) + rest)
        for word in OF_NUMBERS:
            for rest in [("a",), (1,), ("a", "b"), ((1,), "a"), ("a", 1)]:
                self.wrong((word,) + rest)
        for word in OF_TWO:
            for rest in [("a",), (1,), ("a", (1,)), ("a", 1)]:
                self.wrong((word,) + rest)
        for rest in [("a",), ((1,),), ("a", "b"), (1, 2), ("1",)]:
            self.wrong(("come",) + rest)

    def test_come(self):
        for k in [True, False, -1, -10 ** 30, None, "0", (0,), [0]]:
            self.wrong(("come", k))

    def test_same_name_twice(self):
        for word in OF_TWO:
            for name in ["a", "abcdefgh"]:
                self.wrong((word, name, name))

    def test_wrong_names(self):
        for name in WRONG_NAMES:
            for word in OF_ONE:
                self.wrong((word, name))
            for word in OF_NUMBERS:
                self.wrong((word, name, (1,)))
            for word in OF_TWO:
                self.wrong((word, name, "b"))
                self.wrong((word, "b", name))
                self.wrong((word, name, name))

    def test_wrong_numbers(self):
        for numbers in WRONG_NUMBERS:
            for word in OF_NUMBERS:
                self.wrong((word, "a", numbers))

    def test_lists(self):
        for deed in right_deeds():
            self.wrong(list(deed))

    def test_anything_at_each_place(self):
        for thing in odd_things():
            self.wrong(thing)
            for rest in [("a",), ("a", "b"), ("a", (1,)), (1,)]:
                self.wrong((thing,) + rest)
            for word in OF_ONE:
                self.wrong((word, thing))
            for word in OF_NUMBERS:
                self.wrong((word, thing, (1,)))
                self.wrong((word, "a", thing))
            for word in OF_TWO:
                self.wrong((word, thing, "b"))
                self.wrong((word, "b", thing))
                self.wrong((word, thing, thing))
            if not webs.is_numbers((thing,)):
                self.wrong(("set", "a", (thing, 1)))

    def test_anything_as_a_letter_number(self):
        told = [thing for thing in odd_things() if webs.is_deed(("come", thing))]
        self.assertEqual(told, [7, 10 ** 30])

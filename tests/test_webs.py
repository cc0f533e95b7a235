import copy
import unittest

from sumtold.errors import BadWeb, SumError
from sumtold import webs
from tests.odd import odd_things

NAMES = "a b c d e f g h i".split()


def hands(many):
    return [(name, (at, -at)) for at, name in enumerate(NAMES[:many])]


def all_ties(many):
    return [(one, other) for one in NAMES[:many] for other in NAMES[:many] if one < other]


class WebTest(unittest.TestCase):
    def right(self, web):
        self.assertIsNone(webs.check_web(web))
        self.assertIn(webs.is_whole(web), (True, False))

    def wrong(self, web):
        for asked in (webs.check_web, webs.is_whole):
            # Not assertRaises with a message: what is handed in may be too deep to be shown.
            with self.assertRaises(BadWeb):
                asked(web)

    def test_a_refusal_is_a_sum_error(self):
        with self.assertRaises(SumError):
            webs.check_web(None)

    def test_right_webs(self):
        self.right(([("a", (5,))], []))
        self.right(([("b", (5,)), ("a", (7,))], [("b", "a")]))
        self.right(([("b", (5, 1, 2)), ("a", (7, 0, -10 ** 12))], [("a", "b")]))
        self.right(([("abcdefgh", (10 ** 12,)), ("z", (0,))], []))
        for many in range(1, 9):
            self.right((hands(many), []))
            self.right((hands(many), all_ties(many)))

    def test_how_many_hands(self):
        self.right((hands(8), all_ties(8)))
        self.wrong((hands(9), []))
        self.wrong((hands(9), all_ties(8)))
        self.wrong(([], []))

    def test_a_name_twice(self):
        self.wrong(([("a", (1,)), ("a", (1,))], []))
        self.wrong(([("a", (1,)), ("b", (2,)), ("a", (3,))], [("a", "b")]))

    def test_wrong_names(self):
        for name in ["", "A", "abcdefghi", "a1", None, 1, b"a", ("a",)]:
            self.wrong(([(name, (1,))], []))
            self.wrong(([("b", (1,)), (name, (1,))], []))

    def test_wrong_numbers(self):
        for numbers in [(), (1, 2, 3, 4), (10 ** 12 + 1,), (-10 ** 12 - 1,), (True,), [1], 1, None, "1", ("1",)]:
            self.wrong(([("a", numbers)], []))
            self.wrong(([("b", (1,)), ("a", numbers)], []))

    def test_numbers_of_unlike_lengths(self):
        self.wrong(([("a", (1,)), ("b", (1, 2))], []))
        self.wrong(([("a", (1, 2)), ("b", (1, 2)), ("c", (1, 2, 3))], []))
        self.wrong(([("a", (1, 2)), ("b", (1,)), ("c", (1, 2))], []))

    def test_hands_of_other_forms(self):
        for hand in [["a", (1,)], ("a",), ("a", (1,), ()), ((1,), "a"), (), "a", None]:
            self.wrong(([hand], []))
            self.wrong(([("b", (1,)), hand], []))

    def test_ties_of_strange_names(self):
        self.wrong((hands(2), [("a", "c")]))
        self.wrong((hands(2), [("c", "a")]))
        self.wrong((hands(2), [("a", "b"), ("x", "y")]))
        self.wrong((hands(1), [("a", "b")]))

    def test_a_tie_of_one_name_twice(self):
        self.wrong((hands(2), [("a", "a")]))
        self.wrong((hands(2), [("a", "b"), ("b", "b")]))

    def test_a_tie_told_twice(self):
        self.wrong((hands(2), [("a", "b"), ("a", "b")]))
        self.wrong((hands(2), [("a", "b"), ("b", "a")]))
        self.wrong((hands(3), [("a", "b"), ("b", "c"), ("b", "a")]))
        self.right((hands(3), [("a", "b"), ("c", "b"), ("c", "a")]))

    def test_ties_of_other_forms(self):
        for tie in [["a", "b"], ("a",), ("a", "b", "c"), ("a", "b", "a"), (), "ab", None, ("a", None), (1, 2), {"a": "b"}]:
            self.wrong((hands(3), [tie]))
            self.wrong((hands(3), [("b", "c"), tie]))

    def test_hands_or_ties_that_are_no_list(self):
        self.wrong((tuple(hands(2)), []))
        self.wrong((dict(hands(2)), []))
        self.wrong((None, []))
        self.wrong(("ab", []))
        self.wrong((hands(2), ()))
        self.wrong((hands(2), (("a", "b"),)))
        self.wrong((hands(2), {"a": "b"}))
        self.wrong((hands(2), None))

    def test_no_tuple_of_two(self):
        for web in [None, (), (hands(2),), (hands(2), [], []), [hands(2), []], "ab", {0: hands(2), 1: []}, 7, True]:
            self.wrong(web)

    def test_anything_at_each_place(self):
        for thing in odd_things():
            self.wrong(thing)
            self.wrong((thing, []))
            self.wrong((hands(2), thing))
            self.wrong(([thing], []))
            self.wrong(([("a", (1,)), thing], []))
            self.wrong(([(thing, (1,))], []))
            self.wrong(([("a", thing)], []))
            self.wrong(([("a", (thing, "x"))], []))
            self.wrong((hands(2), [thing]))
            self.wrong((hands(2), [("a", "b"), thing]))
            self.wrong((hands(2), [(thing, "b")]))
            self.wrong((hands(2), [("a", thing)]))


class WholeTest(unittest.TestCase):
    def test_one_hand(self):
        self.assertIs(webs.is_whole(([("a", (5,))], [])), True)

    def test_no_ties(self):
        for many in range(2, 9):
            self.assertIs(webs.is_whole((hands(many), [])), False)

    def test_all_ties(self):
        for many in range(1, 9):
            self.assertIs(webs.is_whole((hands(many), all_ties(many))), True)

    def test_chains_either_way_about(self):
        for many in range(2, 9):
            up = [(NAMES[at], NAMES[at + 1]) for at in range(many - 1)]
            down = [(other, one) for one, other in reversed(up)]
            for chain in (up, down):
                self.assertIs(webs.is_whole((hands(many), chain)), True)
                for at in range(len(chain)):
                    self.assertIs(webs.is_whole((hands(many), chain[:at] + chain[at + 1:])), False)

    def test_two_heaps(self):
        ties = [("a", "b"), ("b", "c"), ("c", "a"), ("d", "e")]
        self.assertIs(webs.is_whole((hands(5), ties)), False)
        self.assertIs(webs.is_whole((hands(5), ties + [("e", "b")])), True)

    def test_the_first_hand_alone(self):
        self.assertIs(webs.is_whole((hands(3), [("b", "c")])), False)

    def test_the_last_hand_alone(self):
        self.assertIs(webs.is_whole((hands(3), [("b", "a")])), False)


class UnchangedTest(unittest.TestCase):
    def test_what_is_handed_in_stays(self):
        for web in [(hands(4)[::-1], [("d", "a"), ("b", "a"), ("c", "b")]), (hands(3), [("b", "c")])]:
            before = copy.deepcopy(web)
            webs.check_web(web)
            webs.is_whole(web)
            self.assertEqual(web, before)

    def test_what_is_refused_stays(self):
        web = (hands(4), [("d", "a"), ("a", "d")])
        before = copy.deepcopy(web)
        for asked in (webs.check_web, webs.is_whole):
            with self.assertRaises(BadWeb):
                asked(web)
        self.assertEqual(web, before)

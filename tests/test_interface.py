"""The names and arguments of the interface."""

import inspect
import unittest

from sumtold import desk, hand, judge, near, nearlook, rounds, run, texts

METHODS = {
    hand.Hand: {
        "turn": 0, "take": 1, "set_own": 1, "tie": 1, "cut": 1, "fresh": 0, "numbers": 0, "others": 0, "stamp": 1,
        "account": 1, "held": 0, "answer": 0, "roll": 0, "sure": 0, "books": 0,
    },
    run.Run: {
        "do": 1, "names": 0, "others": 1, "is_up": 1, "held": 1, "answer": 1, "sure": 1, "roll": 1, "stamp": 2,
        "account": 2, "sum_of": 1, "letter": 1, "book": 0, "on_way": 0, "astray": 0, "whole": 0,
    },
    desk.Desk: {"say": 1},
}
FUNCTIONS = [
    (hand.Hand, ["name", "numbers", "others"]), (hand.hand_of, ["books"]), (run.Run, ["web"]),
    (rounds.full_round, ["run"]), (rounds.rounds, ["web", "many"]), (rounds.bound, ["web", "many"]),
    (rounds.distance, ["web"]), (rounds.spread, ["run"]), (near.check_near, ["web", "deeds", "paper"]),
    (nearlook.near_paper, ["web", "deeds"]), (judge.judge, ["web", "book"]), (texts.book_text, ["book"]),
    (texts.read_book, ["text"]), (desk.Desk, []), (desk.Desk.say, ["self", "row"]),
]


class InterfaceTest(unittest.TestCase):
    def test_methods_stand_in_the_class_itself(self):
        for owner, methods in METHODS.items():
            for name, many in methods.items():
                self.assertIn(name, vars(owner))
                self.assertEqual(len(inspect.signature(vars(owner)[name]).parameters), many + 1, name)

    def test_arguments(self):
        for called, names in FUNCTIONS:
            self.assertEqual(list(inspect.signature(called).parameters), names)

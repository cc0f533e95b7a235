import copy
import unittest

from sumtold.errors import BadWeb, NoDeed
from sumtold.run import Run
from tests.odd import odd_things

NOUGHT = ((0, 0), (0, 0))
PAIR = ([("a", (5,)), ("b", (7,))], [("a", "b")])
CHAIN = ([("a", (1,)), ("b", (2,)), ("c", (3,))], [("a", "b"), ("c", "b")])


def state(run):
    names = run.names()
    told = [run.book(), run.written(), names, run.on_way(), run.astray(), run.whole()]
    for name in names:
        told += [run.is_up(name), run.others(name), run.held(name), run.answer(name), run.sure(name), run.roll(name)]
        told += [run.sum_of(name)]
        told += [(run.stamp(name, other), run.account(name, other)) for other in run.others(name)]
    return told + [run.letter(k) for k in range(run.written())]


class RunTest(unittest.TestCase):
    def refused(self, run, *deeds):
        before = state(run)
        for deed in deeds:
            with self.assertRaises(NoDeed):
                run.do(deed)
        self.assertEqual(state(run), before)

    def done(self, run, *deeds):
        return [run.do(deed)[1] for deed in deeds]


class MadeTest(RunTest):
    def test_all_are_there_and_up(self):
        run = Run(([("c", (1, 2)), ("a", (3, 4)), ("b", (5, 6))], [("c", "a"), ("b", "c")]))
        self.assertEqual(run.names(), ["a", "b", "c"])
        self.assertEqual([run.is_up(name) for name in "abc"], [True] * 3)
        self.assertEqual([run.others(name) for name in "abc"], [["c"], ["c"], ["a", "b"]])
        self.assertEqual(run.held("a"), ((3, 0), (4, 0), (1, 0)))
        self.assertEqual(run.roll("c"), (("c", 1, 1, (1, 2), ("a", "b")),))
        self.assertEqual(run.book(), [])

    def test_what_is_no_web(self):
        for web in odd_things() + [([], []), ([("a", (1,))], [("a", "b")])]:
            with self.assertRaises(BadWeb):
                Run(web)

    def test_a_web_changed_behind(self):
        web = copy.deepcopy(CHAIN)
        run = Run(web)
        self.assertEqual(web, CHAIN)
        before = state(run)
        web[0].clear()
        web[1].append(("a", "c"))
        self.assertEqual(state(run), before)
        run.do(("turn", "b"))
        self.assertEqual(web, ([], [("a", "b"), ("c", "b"), ("a", "c")]))


class NoDeedTest(RunTest):
    def test_anything(self):
        run = Run(CHAIN)
        run.do(("turn", "b"))
        self.refused(run, *odd_things())
        self.refused(run, ("turn",), ["turn", "a"], ("turn", "a", "b"), ("Turn", "a"), ("come", True), ("come", -1))
        for thing in odd_things():
            self.refused(run, ("turn", thing), ("fresh", thing), ("set", "a", thing), ("join", "x", thing))
            self.refused(run, ("join", thing, (1,)), ("tie", "a", thing), ("cut", thing, "b"), (thing, "a"))

    def test_hands_that_are_not_there(self):
        run = Run(CHAIN)
        for word in ("turn", "fall", "back", "fresh", "leave"):
            self.refused(run, (word, "x"))
        self.refused(run, ("set", "x", (1,)), ("tie", "a", "x"), ("tie", "x", "a"), ("tie", "x", "y"))
        self.refused(run, ("cut", "a", "x"), ("cut", "x", "a"), ("cut", "x", "y"))


class TurnTest(RunTest):
    def test_a_turn_s_row(self):
        run = Run(CHAIN)
        roll = (("b", 1, 1, (2,), ("a", "c")),)
        letters = (("b", "a", (1, 0), None, 0, NOUGHT, roll), ("b", "c", (1, 0), None, 0, NOUGHT, roll))
        self.assertEqual(run.do(("turn", "b")), (("turn", "b"), letters))
        self.assertEqual(run.book(), [(("turn", "b"), letters)])
        self.assertEqual([run.letter(0), run.letter(1)], list(letters))

    def test_letters_are_numbered_in_the_order_of_writing(self):
        run = Run(CHAIN)
        self.done(run, ("turn", "c"), ("turn", "b"), ("turn", "a"), ("turn", "b"))
        self.assertEqual([run.letter(k)[:2] for k in range(6)], [
            ("c", "b"), ("b", "a"), ("b", "c"), ("a", "b"), ("b", "a"), ("b", "c"),
        ])
        for k in (6, 7, 10 ** 30, -1):
            with self.assertRaises(NoDeed):
                run.letter(k)

    def test_a_hand_without_ties_writes_none(self):
        run = Run(([("a", (5,))], []))
        self.assertEqual(run.do(("turn", "a")), (("turn", "a"), ()))
        self.refused(run, ("come", 0))

    def test_one_who_is_away(self):
        run = Run(CHAIN)
        run.do(("fall", "b"))
        self.refused(run, ("turn", "b"))
        self.done(run, ("back", "b"), ("turn", "b"))
        self.assertEqual(run.written(), 2)


class ComeTest(RunTest):
    def test_two_hands(self):
        run = Run(PAIR)
        told = self.done(run, ("turn", "a"), ("come", 0), ("turn", "b"), ("come", 1))
        self.assertEqual((told[1], told[3]), ("heard", "taken"))
        self.assertEqual(told[2], ((
            "b", "a", (1, 0), (1, 0), 1, ((7, 1), (1, 1)),
            (("a", 1, 1, (5,), ("b",)), ("b", 1, 1, (7,), ("a",))),
        ),))
        self.assertEqual(run.held("a"), ((17, 1), (3, 1)))
        self.assertEqual(run.answer("a"), ((17, 3),))
        self.assertEqual(run.held("b"), ((7, 1), (1, 1)))
        self.assertEqual(run.book()[3], (("come", 1), "taken"))

    def test_beyond_those_written(self):
        run = Run(PAIR)
        self.refused(run, ("come", 0))
        run.do(("turn", "a"))
        self.refused(run, ("come", 1), ("come", 10 ** 30))

    def test_again_and_late(self):
        run = Run(PAIR)
        self.done(run, ("turn", "a"), ("come", 0), ("turn", "b"), ("turn", "b"), ("turn", "b"))
        held = run.held("b")
        self.assertEqual(self.done(run, ("come", 2), ("come", 1), ("come", 2), ("come", 0)), ["taken"] + ["heard"] * 3)
        self.assertEqual(run.account("a", "b")[3:], (2, ((21, 2), (3, 2))))
        self.assertEqual(run.do(("come", 3)), (("come", 3), "taken"))
        self.assertEqual(run.account("a", "b")[3:], (3, ((49, 3), (7, 3))))
        self.assertEqual(run.held("b"), held)

    def test_to_one_who_is_away(self):
        run = Run(PAIR)
        self.done(run, ("turn", "a"), ("fall", "b"))
        before = state(run)
        self.assertEqual(run.do(("come", 0)), (("come", 0), ""))
        self.assertEqual(state(run)[1:], before[1:])
        self.assertEqual(run.book(), before[0] + [(("come", 0), "")])
        self.assertEqual(self.done(run, ("back", "b"), ("come", 0)), [(), "heard"])

    def test_from_one_who_is_away(self):
        run = Run(PAIR)
        self.assertEqual(self.done(run, ("turn", "a"), ("fall", "a"), ("come", 0))[2], "heard")

    def test_to_and_from_one_who_is_gone(self):
        run = Run(CHAIN)
        self.done(run, ("turn", "a"), ("turn", "b"), ("leave", "b"))
        for k in range(3):
            before = state(run)
            self.assertEqual(run.do(("come", k)), (("come", k), ""))
            self.assertEqual(state(run)[1:], before[1:])

    def test_without_a_tie(self):
        run = Run(PAIR)
        self.assertEqual(self.done(run, ("turn", "a"), ("cut", "a", "b"), ("come", 0))[2], "")

    def test_of_an_elder_stamp(self):
        run = Run(PAIR)
        self.done(run, ("turn", "a"), ("fresh", "a"), ("turn", "a"))
        self.assertEqual(self.done(run, ("come", 1), ("come", 0), ("come", 1)), ["heard", "", "heard"])
        self.assertEqual(run.account("b", "a")[0], (2, 0))
        run = Run(PAIR)
        self.done(run, ("turn", "a"), ("cut", "b", "a"), ("tie", "a", "b"), ("turn", "a"))
        self.assertEqual(self.done(run, ("come", 0), ("come", 1), ("come", 0)), ["heard", "heard", ""])
        self.assertEqual(run.account("b", "a")[0], (1, 1))


class FallTest(RunTest):
    def test_fall_and_back(self):
        run = Run(PAIR)
        self.refused(run, ("back", "a"))
        self.assertEqual(run.do(("fall", "a")), (("fall", "a"), ()))
        self.assertEqual((run.is_up("a"), run.is_up("b")), (False, True))
        self.refused(run, ("fall", "a"))
        self.assertEqual(run.do(("back", "a")), (("back", "a"), ()))
        self.assertIs(run.is_up("a"), True)
        self.refused(run, ("back", "a"))

    def test_the_books_stay(self):
        run = Run(PAIR)
        self.done(run, ("turn", "a"), ("come", 0), ("turn", "b"), ("come", 1))
        told = (run.held("a"), run.account("a", "b"), run.stamp("a", "b"), run.roll("a"))
        self.done(run, ("fall", "a"), ("back", "a"))
        self.assertEqual((run.held("a"), run.account("a", "b"), run.stamp("a", "b"), run.roll("a")), told)

    def test_fresh(self):
        for away in (False, True):
            run = Run(PAIR)
            self.done(run, ("turn", "a"), ("come", 0), ("turn", "b"), ("come", 1))
            if away:
                run.do(("fall", "a"))
            self.assertEqual(run.do(("fresh", "a")), (("fresh", "a"), ()))
            self.assertIs(run.is_up("a"), True)
            self.assertEqual(run.held("a"), ((5, 0), (1, 0)))
            self.assertEqual(run.stamp("a", "b"), (2, 0))
            self.assertEqual(run.account("a", "b"), (None, 0, NOUGHT, 0, NOUGHT))
            self.assertEqual(run.roll("a"), (("a", 2, 1, (5,), ("b",)),))
            self.assertEqual(run.stamp("b", "a"), (1, 0))
            self.assertEqual(run.account("b", "a")[0], (1, 0))


class SetTest(RunTest):
    def test_up_or_away(self):
        run = Run(PAIR)
        self.assertEqual(run.do(("set", "a", (9,))), (("set", "a", (9,)), ()))
        self.assertEqual(run.held("a"), ((9, 0), (1, 0)))
        self.done(run, ("fall", "a"), ("set", "a", (-3,)))
        self.assertEqual(run.whole(), ((4, 0), (2, 0)))
        self.assertIs(run.is_up("a"), False)
        self.assertEqual(run.roll("a"), (("a", 1, 3, (-3,), ("b",)),))

    def test_the_same_numbers(self):
        run = Run(PAIR)
        self.assertEqual(run.do(("set", "a", (5,))), (("set", "a", (5,)), ()))
        self.assertEqual(run.roll("a"), (("a", 1, 2, (5,), ("b",)),))

    def test_as_many_as_all_have(self):
        self.refused(Run(PAIR), ("set", "a", (5, 6)), ("set", "a", (1, 2, 3)), ("set", "a", ()))
        run = Run(([("a", (1, 2))], []))
        self.refused(run, ("set", "a", (5,)))
        run.do(("set", "a", (5, 6)))


class TieTest(RunTest):
    def test_both_ends_take_it_up(self):
        for one, other in (("a", "c"), ("c", "a")):
            for away in ([], ["a"], ["a", "c"]):
                run = Run(CHAIN)
                for name in away:
                    run.do(("fall", name))
                self.assertEqual(run.do(("tie", one, other)), (("tie", one, other), ()))
                self.assertEqual([run.others(name) for name in "abc"], [["b", "c"], ["a", "c"], ["a", "b"]])
                self.assertEqual((run.stamp("a", "c"), run.stamp("c", "a")), ((1, 0), (1, 0)))
                self.assertEqual(run.roll("a"), (("a", 1, 2, (1,), ("b", "c")),))
                self.assertEqual(run.roll("c"), (("c", 1, 2, (3,), ("a", "b")),))
                self.refused(run, ("tie", "a", "c"), ("tie", "c", "a"))

    def test_where_there_is_one(self):
        self.refused(Run(CHAIN), ("tie", "a", "b"), ("tie", "b", "a"), ("tie", "b", "c"))

    def test_both_ends_cut_it(self):
        for one, other in (("a", "b"), ("b", "a")):
            run = Run(CHAIN)
            run.do(("fall", "b"))
            self.assertEqual(run.do(("cut", one, other)), (("cut", one, other), ()))
            self.assertEqual([run.others(name) for name in "abc"], [[], ["c"], ["b"]])
            self.refused(run, ("cut", "a", "b"), ("cut", "b", "a"))
            run.do(("tie", one, other))
            self.assertEqual((run.stamp("a", "b"), run.stamp("b", "a")), ((1, 1), (1, 1)))
            self.assertEqual(run.roll("b"), (("b", 1, 3, (2,), ("a", "c")),))

    def test_cut_where_there_is_none(self):
        self.refused(Run(CHAIN), ("cut", "a", "c"), ("cut", "c", "a"))

    def test_eras_of_the_two_ends_need_not_be_alike(self):
        run = Run(PAIR)
        self.done(run, ("cut", "a", "b"), ("tie", "a", "b"), ("fresh", "a"), ("cut", "a", "b"), ("tie", "b", "a"))
        self.assertEqual((run.stamp("a", "b"), run.stamp("b", "a")), ((2, 1), (1, 2)))

    def test_what_was_given_is_held_again(self):
        run = Run(PAIR)
        self.done(run, ("turn", "a"), ("come", 0), ("turn", "b"), ("come", 1), ("cut", "a", "b"))
        self.assertEqual((run.held("a"), run.held("b")), (((5, 0), (1, 0)), ((7, 0), (1, 0))))


class JoinTest(RunTest):
    def test_a_new_name(self):
        run = Run(CHAIN)
        self.assertEqual(run.do(("join", "bb", (9,))), (("join", "bb", (9,)), ()))
        self.assertEqual(run.names(), ["a", "b", "bb", "c"])
        self.assertEqual((run.is_up("bb"), run.others("bb")), (True, []))
        self.assertEqual(run.roll("bb"), (("bb", 1, 1, (9,), ()),))
        self.done(run, ("tie", "a", "bb"), ("turn", "bb"))
        self.assertEqual(run.letter(0)[:2], ("bb", "a"))

    def test_a_name_that_was_there(self):
        run = Run(CHAIN)
        self.refused(run, ("join", "a", (1,)))
        self.done(run, ("join", "x", (1,)), ("leave", "a"), ("leave", "x"), ("fall", "b"))
        for name in "abcx":
            self.refused(run, ("join", name, (1,)))

    def test_as_many_numbers_as_all_have(self):
        self.refused(Run(CHAIN), ("join", "x", (1, 2)), ("join", "x", ()))
        self.refused(Run(([("a", (1, 2, 3))], [])), ("join", "x", (1, 2)), ("join", "x", (1,)))

    def test_the_ninth_hand(self):
        run = Run(([(name, (1,)) for name in "abcdefg"], []))
        run.do(("join", "h", (1,)))
        self.refused(run, ("join", "i", (1,)))
        self.done(run, ("fall", "a"))
        self.refused(run, ("join", "i", (1,)))
        self.done(run, ("leave", "a"), ("join", "i", (1,)))
        self.assertEqual(run.names(), list("bcdefghi"))
        self.refused(run, ("join", "j", (1,)))


class LeaveTest(RunTest):
    def test_with_ties(self):
        for away in (False, True):
            run = Run(CHAIN)
            if away:
                run.do(("fall", "b"))
            self.assertEqual(run.do(("leave", "b")), (("leave", "b"), ()))
            self.assertEqual(run.names(), ["a", "c"])
            self.assertEqual((run.others("a"), run.others("c")), ([], []))
            self.assertEqual(run.roll("a"), (("a", 1, 2, (1,), ()),))
            self.assertEqual(run.roll("c"), (("c", 1, 2, (3,), ()),))
            for word in ("turn", "fall", "back", "fresh", "leave"):
                self.refused(run, (word, "b"))
            self.refused(run, ("set", "b", (1,)), ("tie", "a", "b"), ("cut", "b", "a"), ("join", "b", (1,)))
            self.assertEqual(run.whole(), ((4, 0), (2, 0)))

    def test_a_run_empty_of_hands(self):
        run = Run(([("a", (5, 6)), ("b", (7, 8))], [("a", "b")]))
        self.done(run, ("turn", "a"), ("leave", "a"), ("leave", "b"))
        self.assertEqual(run.names(), [])
        nought = ((0, 0),) * 3
        self.assertEqual((run.on_way(), run.astray(), run.whole()), (nought, nought, nought))
        self.refused(run, ("turn", "a"), ("join", "a", (1, 2)), ("join", "x", (1,)), ("come", 1))
        self.assertEqual(run.do(("come", 0)), (("come", 0), ""))
        run.do(("join", "x", (1, 2)))
        self.assertEqual(run.names(), ["x"])


class OwnListsTest(RunTest):
    def test_what_is_told_is_the_asker_s_own(self):
        run = Run(CHAIN)
        self.done(run, ("turn", "a"), ("come", 0), ("turn", "b"))
        before = state(run)
        for told in (run.book(), run.names(), run.others("b")):
            told.clear()
        run.book().append("x")
        run.names().append("x")
        run.others("b").append("x")
        self.assertEqual(state(run), before)

    def test_a_book_stays_as_it_was_told(self):
        run = Run(CHAIN)
        run.do(("turn", "a"))
        book = run.book()
        self.done(run, ("come", 0), ("turn", "b"))
        self.assertEqual(len(book), 1)

    def test_the_same_question_has_the_same_answer(self):
        run = Run(CHAIN)
        self.done(run, ("turn", "a"), ("come", 0), ("turn", "b"))
        self.assertEqual(state(run), state(run))

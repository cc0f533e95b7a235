import copy
import random
import unittest
from fractions import Fraction

from sumtold.errors import BadWeb
from sumtold.rounds import bound, distance, full_round, rounds, spread
from sumtold.run import Run
from tests.odd import odd_things
from tests.test_run import state
from tests.worlds import ALL_KINDS, NAMES, random_deed, random_web, run_without_an_answer

CHAIN = ([("b", (2,)), ("a", (1,)), ("c", (3,))], [("a", "b"), ("c", "b")])
WRONG_WEBS = [([], []), ([("a", (1,)), ("a", (1,))], []), ([("a", (1,))], [("a", "b")]), [[("a", (1,))], []]]


def chain(many):
    return ([(name, (1,)) for name in NAMES[:many]], [(NAMES[at + 1], NAMES[at]) for at in range(many - 1)])


def star(many):
    return ([(name, (1,)) for name in NAMES[:many]], [(name, NAMES[0]) for name in NAMES[1:many]])


def ring(many):
    return (chain(many)[0], chain(many)[1] + [(NAMES[0], NAMES[many - 1])])


def every_tie(many):
    return (chain(many)[0], [(one, other) for one in NAMES[:many] for other in NAMES[:many] if one < other])


class FullRoundTest(unittest.TestCase):
    def test_names_rising_then_letters_as_written(self):
        run = Run(CHAIN)
        rows = full_round(run)
        deeds = [("turn", "a"), ("turn", "b"), ("turn", "c"), ("come", 0), ("come", 1), ("come", 2), ("come", 3)]
        self.assertEqual([row[0] for row in rows], deeds)
        self.assertEqual(rows, run.book())
        again = Run(CHAIN)
        self.assertEqual(rows, [again.do(deed) for deed in deeds])

    def test_letters_of_this_round_alone(self):
        run = Run(CHAIN)
        run.do(("turn", "b"))
        full_round(run)
        rows = full_round(run)
        self.assertEqual([row[0] for row in rows[3:]], [("come", k) for k in range(6, 10)])
        self.assertEqual([row[1] for row in rows[3:]], ["taken"] * 4)
        self.assertEqual(run.book()[-7:], rows)

    def test_hands_away(self):
        run = Run(CHAIN)
        run.do(("fall", "b"))
        rows = full_round(run)
        self.assertEqual(
            [(row[0], row[1] if row[0][0] == "come" else len(row[1])) for row in rows],
            [(("turn", "a"), 1), (("turn", "c"), 1), (("come", 0), ""), (("come", 1), "")],
        )
        for name in "ac":
            run.do(("fall", name))
        self.assertEqual(full_round(run), [])

    def test_no_hands(self):
        run = Run(([("a", (1,))], []))
        run.do(("leave", "a"))
        self.assertEqual(full_round(run), [])

    def test_the_list_is_the_asker_s_own(self):
        run = Run(CHAIN)
        full_round(run).clear()
        self.assertEqual(len(run.book()), 7)


class RoundsTest(unittest.TestCase):
    def test_so_many(self):
        for many in (0, 1, 2, 5, 20):
            run = Run(CHAIN)
            for _ in range(many):
                full_round(run)
            told = rounds(CHAIN, many)
            self.assertIsInstance(told, Run)
            self.assertEqual(state(told), state(run))

    def test_somewhat_more(self):
        self.assertEqual(len(rounds(CHAIN, 23).book()), 23 * 7)

    def test_the_numbers_come_near(self):
        run = rounds(CHAIN, 20)
        for name in "abc":
            self.assertEqual(run.sure(name), (3, ((3, "c"),)))
            self.assertEqual(run.sum_of(name), (6,))

    def test_what_is_no_web(self):
        for web in WRONG_WEBS + odd_things():
            with self.assertRaises(BadWeb):
                rounds(web, 1)
            with self.assertRaises(BadWeb):
                rounds(web, 0)

    def test_the_web_stays(self):
        web = copy.deepcopy(CHAIN)
        rounds(web, 3)
        self.assertEqual(web, CHAIN)


class BoundTest(unittest.TestCase):
    def test_small_ones(self):
        # Two hands: D is 1, the greatest number of ties 1, so q is 2.
        self.assertEqual([bound(chain(2), many) for many in (1, 2, 3, 4)], [(1, 1), (1, 2), (1, 4), (1, 8)])
        # Three hands in a chain: D is 2, q is 4, and so 15 by 16 for each two rounds behind the first.
        self.assertEqual(
            [bound(chain(3), many) for many in (1, 2, 3, 4, 5, 6, 7)],
            [(1, 1), (1, 1), (15, 16), (15, 16), (225, 256), (225, 256), (3375, 4096)],
        )
        self.assertEqual(bound(every_tie(3), 3), (15, 16))
        # Four ties of one hand: q is 8, D is 4.
        self.assertEqual(bound(star(5), 5), (4095, 4096))
        self.assertEqual(bound(star(4), 4), (63, 64))
        self.assertEqual(bound(star(8), 8), (8 ** 7 - 1, 8 ** 7))
        self.assertEqual(bound(ring(8), 8), (4 ** 7 - 1, 4 ** 7))

    def test_two_to_eight_hands(self):
        for many_hands in range(2, 9):
            shapes = [(chain(many_hands), 2 if many_hands > 2 else 1), (star(many_hands), many_hands - 1)]
            shapes += [(every_tie(many_hands), many_hands - 1)]
            shapes += [(ring(many_hands), 2)] if many_hands > 2 else []
            for web, most in shapes:
                q = min(2 ** c for c in range(5) if 2 ** c > most)
                for many in range(1, 21):
                    often = len([k for k in range(1, 21) if k * (many_hands - 1) <= many - 1])
                    told = (1 - Fraction(1, q ** (many_hands - 1))) ** often
                    self.assertEqual(bound(web, many), (told.numerator, told.denominator))

    def test_somewhat_beyond(self):
        self.assertEqual(bound(chain(2), 25), (1, 2 ** 24))
        self.assertEqual(bound(chain(2), 0), (1, 1))

    def test_one_hand_and_webs_that_are_not_whole(self):
        webs = [([("a", (1,))], []), (chain(2)[0], []), (chain(4)[0], [("a", "b"), ("c", "d")])]
        for web in webs + WRONG_WEBS + odd_things():
            with self.assertRaises(BadWeb):
                bound(web, 3)

    def test_order_tells_nothing(self):
        hands, ties = star(6)
        self.assertEqual(bound((hands[::-1], [tie[::-1] for tie in ties[::-1]]), 11), bound((hands, ties), 11))


class DistanceTest(unittest.TestCase):
    def test_each_number(self):
        web = ([("a", (5, -7, 0)), ("b", (-5, -9, 0)), ("c", (3, 10 ** 12, 0))], [])
        self.assertEqual(distance(web), (10, 10 ** 12 + 9, 0))
        self.assertEqual(distance(([("a", (5, 6))], [])), (0, 0))
        self.assertEqual(distance(([("a", (10 ** 12,)), ("b", (-10 ** 12,))], [("b", "a")])), (2 * 10 ** 12,))

    def test_what_is_no_web(self):
        for web in WRONG_WEBS + odd_things():
            with self.assertRaises(BadWeb):
                distance(web)


class SpreadTest(unittest.TestCase):
    def test_at_the_begin(self):
        run = Run(([("a", (5, -7)), ("b", (-5, -9)), ("c", (3, 4))], []))
        self.assertEqual(spread(run), ((10, 1), (13, 1)))
        self.assertEqual(spread(Run(([("a", (5,))], []))), ((0, 1),))

    def test_pairs(self):
        run = Run(([("a", (5,)), ("b", (7,))], [("a", "b")]))
        for deed in [("turn", "a"), ("come", 0), ("turn", "b"), ("come", 1)]:
            run.do(deed)
        self.assertEqual(spread(run), ((4, 3),))

    def test_hands_away_count_and_hands_gone_do_not(self):
        run = Run(([("a", (5,)), ("b", (7,)), ("c", (1,))], []))
        run.do(("fall", "c"))
        self.assertEqual(spread(run), ((6, 1),))
        run.do(("leave", "c"))
        self.assertEqual(spread(run), ((2, 1),))

    def test_none(self):
        run = Run(([("a", (1,))], []))
        run.do(("leave", "a"))
        self.assertIsNone(spread(run))

    def test_one_without_an_answer(self):
        run = run_without_an_answer()
        self.assertIsNone(spread(run))
        run.do(("leave", "a"))
        self.assertIsNotNone(spread(run))

    def test_behind_many_deeds(self):
        for seed in range(60):
            rng = random.Random(f"spread {seed}")
            run = Run(random_web(rng, rng.randint(2, 6), 2))
            for _ in range(60):
                deed = random_deed(rng, run, ALL_KINDS, 2)
                if deed is None:
                    break
                run.do(deed)
                answers = [run.answer(name) for name in run.names()]
                if not answers or None in answers:
                    self.assertIsNone(spread(run))
                else:
                    columns = [[Fraction(*answer[at]) for answer in answers] for at in range(2)]
                    widths = [max(column) - min(column) for column in columns]
                    self.assertEqual(spread(run), tuple((one.numerator, one.denominator) for one in widths))

import random
import unittest
from fractions import Fraction

from sumtold.errors import NoDeed
from sumtold.pairs import row_plus
from sumtold.run import Run
from tests.odd import odd_things
from tests.worlds import ALL_KINDS, fractions, random_deed, random_web, run_without_an_answer, total

NOUGHT = ((0, 0), (0, 0))
PAIR = ([("a", (5,)), ("b", (7,))], [("a", "b")])
CHAIN = ([("a", (1,)), ("b", (2,)), ("c", (3,))], [("a", "b"), ("c", "b")])
OF_ONE = ("others", "is_up", "held", "answer", "sure", "roll", "sum_of")
OF_TWO = ("stamp", "account")


def behind(web, *deeds):
    run = Run(web)
    for deed in deeds:
        run.do(deed)
    return run


def slow_ways(run, size):
    """What is on the way and what is astray, account by account."""
    ways = [[Fraction(0)] * (size + 1), [Fraction(0)] * (size + 1)]
    for name in run.names():
        for other in run.others(name):
            mine, theirs = run.account(name, other), run.account(other, name)
            is_joined = (mine[0], theirs[0]) == (run.stamp(other, name), run.stamp(name, other))
            way = ways[0 if is_joined else 1]
            for at, (given, taken) in enumerate(zip(fractions(mine[2]), fractions(mine[4]))):
                way[at] += given - taken
    return ways


class WhoIsAskedTest(unittest.TestCase):
    def refused(self, run, question, *asked):
        with self.assertRaises(NoDeed):
            getattr(run, question)(*asked)

    def test_hands_that_are_not_there(self):
        run = behind(CHAIN, ("join", "y", (4,)), ("leave", "b"), ("leave", "y"))
        for question in OF_ONE:
            for name in ("b", "x", "y", ""):
                self.refused(run, question, name)
        for question in OF_TWO:
            for name in ("b", "x", "y"):
                self.refused(run, question, name, "a")
                self.refused(run, question, "a", name)
                self.refused(run, question, name, name)

    def test_hands_that_are_not_tied(self):
        run = behind(CHAIN, ("cut", "a", "b"))
        for question in OF_TWO:
            for one, other in (("a", "b"), ("b", "a"), ("a", "c"), ("c", "a"), ("a", "a"), ("b", "b")):
                self.refused(run, question, one, other)
            self.assertIsNotNone(getattr(run, question)("b", "c"))

    def test_things_of_other_kinds(self):
        run = behind(CHAIN, ("turn", "a"))
        for thing in odd_things():
            for question in OF_ONE:
                self.refused(run, question, thing)
            for question in OF_TWO:
                self.refused(run, question, thing, "b")
                self.refused(run, question, "b", thing)
            self.refused(run, "letter", thing)

    def test_letters(self):
        run = behind(PAIR, ("turn", "a"), ("turn", "b"))
        self.assertEqual((run.letter(0)[:2], run.letter(1)[:2]), (("a", "b"), ("b", "a")))
        for k in (-1, -2, 2, 3, 10 ** 30, True, False, None):
            self.refused(run, "letter", k)

    def test_one_who_is_away_is_told_of(self):
        run = behind(PAIR, ("turn", "a"), ("come", 0), ("turn", "b"), ("come", 1), ("fall", "a"))
        self.assertEqual(run.held("a"), ((17, 1), (3, 1)))
        self.assertEqual(run.answer("a"), ((17, 3),))
        self.assertEqual(run.sure("a"), (2, ((7, "b"),)))
        self.assertEqual(run.others("a"), ["b"])
        self.assertEqual(run.stamp("a", "b"), (1, 0))
        self.assertEqual(run.account("a", "b"), ((1, 0), 0, NOUGHT, 1, ((7, 1), (1, 1))))


class SumTest(unittest.TestCase):
    def test_one_alone(self):
        run = Run(([("a", (5, -7)), ("b", (1, 1))], []))
        self.assertEqual(run.sum_of("a"), (5, -7))

    def test_not_sure(self):
        run = Run(PAIR)
        self.assertIsNone(run.sum_of("a"))
        run.do(("turn", "a"))
        self.assertIsNone(run.sum_of("b"))
        run.do(("come", 0))
        self.assertIsNone(run.sum_of("a"))
        self.assertEqual(run.sum_of("b"), (14,))

    def test_the_mean_times_the_count(self):
        run = behind(PAIR, ("turn", "a"), ("come", 0), ("turn", "b"), ("come", 1))
        self.assertEqual(run.answer("a"), ((17, 3),))
        self.assertEqual(run.sum_of("a"), (11,))
        self.assertEqual(run.sum_of("b"), (14,))

    def test_halves(self):
        deeds = [("turn", "c"), ("come", 0), ("turn", "a"), ("come", 1), ("turn", "b"), ("come", 3)]
        for three, two, told in ((3, 2, 8), (-3, -2, -7)):
            run = behind(([("a", (three,)), ("b", (two,)), ("c", (three,))], [("a", "b"), ("a", "c")]), *deeds)
            self.assertEqual(run.answer("a"), ((three + two, 2),))
            self.assertEqual(run.sure("a")[0], 3)
            self.assertEqual(run.sum_of("a"), (told,))

    def test_no_answer(self):
        run = run_without_an_answer()
        self.assertLess(run.held("a")[-1][0], 0)
        self.assertEqual(run.sure("a"), (3, ((3, "c"),)))
        self.assertIsNone(run.answer("a"))
        self.assertIsNone(run.sum_of("a"))


class JointTest(unittest.TestCase):
    def test_on_the_way_and_astray(self):
        run = behind(PAIR, ("turn", "a"), ("come", 0), ("turn", "b"))
        # a has not seen b yet: what b gave is astray.
        self.assertEqual((run.on_way(), run.astray()), (NOUGHT, ((7, 1), (1, 1))))
        run.do(("come", 1))
        self.assertEqual((run.on_way(), run.astray()), (NOUGHT, NOUGHT))
        run.do(("turn", "a"))
        self.assertEqual((run.on_way(), run.astray()), (((17, 2), (3, 2)), NOUGHT))
        run.do(("turn", "b"))
        self.assertEqual((run.on_way(), run.astray()), (((6, 0), (1, 0)), NOUGHT))
        run.do(("come", 2))
        self.assertEqual((run.on_way(), run.astray()), (((7, 2), (1, 2)), NOUGHT))
        self.assertEqual(run.whole(), ((12, 0), (2, 0)))

    def test_a_tie_out_of_joint_by_one_end_fresh(self):
        run = behind(PAIR, ("turn", "a"), ("come", 0), ("turn", "b"), ("come", 1), ("fresh", "a"))
        self.assertEqual((run.on_way(), run.astray()), (NOUGHT, ((7, 1), (1, 1))))
        self.assertEqual(run.whole(), ((12, 0), (2, 0)))
        run.do(("turn", "a"))
        run.do(("come", 2))
        self.assertEqual(run.held("b"), ((7, 0), (1, 0)))
        self.assertEqual((run.on_way(), run.astray()), (NOUGHT, NOUGHT))

    def test_a_tie_of_which_one_end_alone_has_seen_the_other_s_stamp(self):
        run = behind(
            PAIR, ("turn", "a"), ("come", 0), ("turn", "b"), ("come", 1), ("turn", "a"), ("fresh", "b"), ("come", 2),
        )
        self.assertEqual((run.account("b", "a")[0], run.stamp("a", "b")), ((1, 0), (1, 0)))
        self.assertEqual((run.account("a", "b")[0], run.stamp("b", "a")), ((1, 0), (2, 0)))
        self.assertEqual((run.on_way(), run.astray()), (NOUGHT, ((3, 2), (1, 2))))

    def test_each_tie_by_itself(self):
        run = behind(
            CHAIN, ("turn", "a"), ("come", 0), ("turn", "b"), ("come", 1), ("turn", "c"), ("come", 3), ("turn", "b"),
        )
        # b gave c a share that is astray, and a a second one that is on the way.
        given = run.account("b", "a")
        self.assertEqual((given[1], run.account("a", "b")[3]), (2, 1))
        self.assertEqual(row_plus(run.on_way(), run.account("a", "b")[4]), given[2])
        self.assertEqual(run.astray(), run.account("b", "c")[2])

    def test_the_whole_behind_many_deeds(self):
        for seed in range(80):
            rng = random.Random(f"whole {seed}")
            web = random_web(rng)
            size = len(web[0][0][1])
            run = Run(web)
            for _ in range(60):
                deed = random_deed(rng, run, ALL_KINDS, size)
                if deed is None:
                    break
                run.do(deed)
                owns = [run.roll(name)[[entry[0] for entry in run.roll(name)].index(name)][3] for name in run.names()]
                whole = [sum(numbers[at] for numbers in owns) for at in range(size)] + [len(owns)]
                self.assertEqual(fractions(run.whole()), whole)
                rows = [run.held(name) for name in run.names()] + [run.on_way(), run.astray()]
                self.assertEqual(total(rows, size), whole)
                self.assertEqual([fractions(run.on_way()), fractions(run.astray())], slow_ways(run, size))

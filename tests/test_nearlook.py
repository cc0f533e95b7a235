import copy
import random
import time
import unittest
from fractions import Fraction

from sumtold.errors import BadWeb, NoDeed, NoNear
from sumtold.near import check_near
from sumtold.nearlook import near_paper
from sumtold.rounds import bound, rounds
from sumtold.run import Run
from tests.odd import odd_things
from tests.test_near import CHAIN, GO, PAIR, ROUND, SECOND, SPELL, THREE_ROUNDS, TWO_ROUNDS, random_run
from tests.walks import all_papers, how_many_papers, least_pair, quiet_places, spell_tables
from tests.worlds import random_web, turn_and_come

STAR = ([(name, (at,)) for at, name in enumerate("abcdefgh")], [("a", other) for other in "bcdefgh"])


def told_pair(web, deeds):
    return check_near(web, deeds, near_paper(web, deeds))


def star_deeds(many):
    """Turns of the seven around, then of the one amid them, each with its comings, so often; sixty deeds at most."""
    run = Run(STAR)
    for _ in range(many):
        for names in ("bcdefgh", "a"):
            first = run.written()
            for name in names:
                run.do(("turn", name))
            for k in range(first, run.written()):
                run.do(("come", k))
    return [deed for deed, _ in run.book()][:60]


def round_deeds(web, many):
    return [deed for deed, _ in rounds(web, many).book()]


def written_deeds(web, words):
    """Deeds by words: a is a's turn, +ab the coming of a's first letter to b that has not come yet."""
    run = Run(web)
    waiting = {}
    for word in words.split():
        if word.startswith("+"):
            run.do(("come", waiting[word[1:]].pop(0)))
        else:
            first = run.written()
            run.do(("turn", word))
            for k in range(first, run.written()):
                waiting.setdefault("".join(run.letter(k)[:2]), []).append(k)
    return [deed for deed, _ in run.book()]


class NearPaperTest(unittest.TestCase):
    def test_no_deeds(self):
        for web in (PAIR, CHAIN, STAR, ([("a", (5,))], [])):
            self.assertEqual(near_paper(web, []), [])

    def test_one_hand_alone(self):
        web = ([("a", (5, 6))], [])
        self.assertEqual(near_paper(web, [("turn", "a")]), [(0, 1, [("a", "a", ())])])
        for many in (2, 10, 60):
            self.assertEqual(told_pair(web, [("turn", "a")] * many), (0, 1))

    def test_without_ties(self):
        web = ([("a", (5,)), ("b", (6,))], [])
        self.assertEqual(near_paper(web, ROUND * 5), [])

    def test_no_quiet_places_behind_the_first_gift(self):
        deeds = [("turn", "a"), ("come", 0)] + [("turn", "b")] * 8 + [("turn", "a")] * 3
        self.assertEqual(quiet_places(PAIR, deeds), [0, 1, 2])
        self.assertEqual(near_paper(PAIR, deeds), [])

    def test_a_tie_open_one_way_alone(self):
        deeds = [("turn", "a"), ("come", 0), ("turn", "b"), ("come", 1)]
        self.assertEqual(quiet_places(PAIR, deeds), [0, 1, 2, 4])
        self.assertEqual(near_paper(PAIR, deeds), [])

    def test_two_rounds(self):
        paper = near_paper(PAIR, TWO_ROUNDS)
        self.assertEqual([spell[1:] for spell in paper], [(8, GO)])
        self.assertEqual(told_pair(PAIR, TWO_ROUNDS), (1, 2))

    def test_two_spells(self):
        paper = near_paper(PAIR, THREE_ROUNDS)
        self.assertEqual([spell[1:] for spell in paper], [SPELL[1:], SECOND[1:]])
        self.assertEqual(told_pair(PAIR, THREE_ROUNDS), (1, 4))

    def test_one_long_spell_where_two_short_ones_are_none(self):
        deeds = [("turn", "a"), ("come", 0), ("turn", "b"), ("come", 1), ("turn", "a"), ("come", 2)]
        paper = near_paper(PAIR, deeds)
        self.assertEqual([spell[1] for spell in paper], [6])
        self.assertEqual(told_pair(PAIR, deeds), (3, 4))

    def test_the_better_of_two_ways(self):
        # a to c by b, or on its own tie; the walk that stays at a longest has the lesser part.
        web = (CHAIN[0], CHAIN[1] + [("a", "c")])
        deeds = round_deeds(web, 4)
        self.assertEqual(Fraction(*told_pair(web, deeds)), least_pair(web, deeds))

    def test_begins_at_quiet_places_alone(self):
        # From place 5 on the walks have greater parts than from place 4 on, but 5 isn't quiet.
        deeds = written_deeds(PAIR, "a b +ab +ba a a b +ab +ab +ba")
        self.assertEqual(quiet_places(PAIR, deeds), [0, 1, 2, 3, 4, 10])
        self.assertEqual(told_pair(PAIR, deeds), (3, 4))

    def test_an_earlier_begin_may_be_the_better_one(self):
        web = (CHAIN[0], [("a", "b"), ("a", "c"), ("b", "c")])
        run = Run(web)
        for name in "abcbcca":
            turn_and_come(run, name)
        deeds = [deed for deed, _ in run.book()]
        self.assertEqual(least_pair(web, deeds), Fraction(7, 8))
        self.assertEqual(told_pair(web, deeds), (7, 8))

    def test_an_elder_gift_does_not_bring_a_walk(self):
        # From a on a walk comes to b behind b's first gift to c; only the second one brings it there, behind c's turn.
        web = ([(name, (1,)) for name in "abcd"], [("a", "b"), ("b", "c"), ("c", "d")])
        deeds = written_deeds(
            web, "a b c d +ab +ba +bc +cb +cd +dc  b a +ab b +bc c +cd +cb +bc +ba +ba"
            "  c +cd +cb d +dc c +cb +cd b +ba +bc a +ab",
        )
        self.assertEqual(Fraction(*told_pair(web, deeds)), least_pair(web, deeds))
        self.assertEqual(told_pair(web, deeds), (63, 64))

    def test_more_than_sixty_deeds_are_no_fault(self):
        deeds = round_deeds(PAIR, 20)
        self.assertEqual(len(deeds), 80)
        self.assertEqual(told_pair(PAIR, deeds), (1, 2 ** 19))


class LeastTest(unittest.TestCase):
    def small_run(self, rng, many_hands):
        if rng.random() < 0.4:
            return random_run(rng, many_hands, rng.randint(4, 13))
        web = random_web(rng, many_hands, 1, True)
        run = Run(web)
        for _ in range(rng.randint(3, 7)):
            turn_and_come(run, rng.choice(run.names()))
        return web, [deed for deed, _ in run.book()]

    def test_held_against_all_papers(self):
        seen = {2: 0, 3: 0}
        for seed in range(300):
            rng = random.Random(f"all papers {seed}")
            many_hands = rng.randint(2, 3)
            web, deeds = self.small_run(rng, many_hands)
            tables = spell_tables(web, deeds)
            if how_many_papers(tables) > 700:
                continue
            pairs = [Fraction(*check_near(web, deeds, paper)) for paper in all_papers(tables)]
            self.assertEqual(Fraction(*told_pair(web, deeds)), min(pairs))
            self.assertEqual(least_pair(web, deeds), min(pairs))
            seen[many_hands] += len(set(pairs)) > 2
        self.assertGreater(min(seen.values()), 3, seen)

    def test_held_against_the_best_walks_from_the_end(self):
        many = 0
        for seed in range(60):
            rng = random.Random(f"best walks {seed}")
            web, deeds = random_run(rng, rng.randint(2, 5), rng.randint(10, 40))
            paper = near_paper(web, deeds)
            many += len(paper)
            self.assertEqual(Fraction(*check_near(web, deeds, paper)), least_pair(web, deeds))
        self.assertGreater(many, 30)

    def test_eight_hands_around_one(self):
        deeds = star_deeds(3)
        self.assertEqual(len(deeds), 60)
        begin = time.process_time()
        paper = near_paper(STAR, deeds)
        self.assertLess(time.process_time() - begin, 20)
        self.assertEqual(len(paper), 1)
        self.assertEqual(Fraction(*check_near(STAR, deeds, paper)), least_pair(STAR, deeds))

    def test_many_quiet_places(self):
        # Each turn's letters come at once, so half of all places and more are quiet.
        run = Run(([(name, (1,)) for name in "abcd"], [("a", "b"), ("b", "c"), ("d", "c")]))
        while len(run.book()) < 57:
            first = run.written()
            run.do(("turn", "abcdcb"[len(run.book()) % 6]))
            for k in range(first, run.written()):
                run.do(("come", k))
        web = ([(name, (1,)) for name in "dbac"], [("a", "b"), ("b", "c"), ("d", "c")])
        deeds = [deed for deed, _ in run.book()]
        self.assertGreater(len(quiet_places(web, deeds)), 20)
        self.assertEqual(Fraction(*told_pair(web, deeds)), least_pair(web, deeds))

    def test_full_rounds(self):
        for seed in range(40):
            rng = random.Random(f"rounds {seed}")
            web = random_web(rng, rng.randint(2, 5), 1, True)
            for many in range(1, 20):
                deeds = round_deeds(web, many)
                if len(deeds) <= 60:
                    self.assertLessEqual(Fraction(*told_pair(web, deeds)), Fraction(*bound(web, many)))


class HoldsTest(unittest.TestCase):
    def nearness(self, rng, web, deeds, told):
        for _ in range(5):
            numbers = [rng.choice((0, 1, -10 ** 12, 10 ** 12, rng.randint(-9, 9))) for _ in web[0]]
            run = Run(([(name, (number,)) for (name, _), number in zip(web[0], numbers)], web[1]))
            for deed in deeds:
                run.do(deed)
            answers = [Fraction(*run.answer(name)[0]) for name in run.names()]
            self.assertLessEqual(max(answers) - min(answers), told * (max(numbers) - min(numbers)))

    def bent(self, rng, web, deeds, paper):
        """The paper with one thing otherwise."""
        paper = copy.deepcopy(paper)
        at = rng.randrange(len(paper))
        begin, end, walks = paper[at]
        choice = rng.randrange(6)
        if choice == 0:
            paper[at] = (rng.choice(quiet_places(web, deeds)), end, walks)
        elif choice == 1:
            paper[at] = (begin, rng.choice(quiet_places(web, deeds)), walks)
        elif choice == 2:
            paper.insert(rng.randint(0, len(paper)), paper[at])
        else:
            way = rng.randrange(len(walks))
            name, other, steps = walks[way]
            steps = list(steps)
            step = (rng.randrange(len(deeds)), rng.choice(web[0])[0])
            if choice == 3 or not steps:
                steps.insert(rng.randint(0, len(steps)), step)
            elif choice == 4:
                steps[rng.randrange(len(steps))] = step
            else:
                del steps[rng.randrange(len(steps))]
            walks[way] = (name, other, tuple(steps))
        return paper

    def test_papers(self):
        let_by = refused = 0
        for seed in range(60):
            rng = random.Random(f"papers told {seed}")
            web, deeds = random_run(rng, rng.randint(1, 4), rng.randint(8, 24))
            paper = near_paper(web, deeds)
            self.nearness(rng, web, deeds, Fraction(*check_near(web, deeds, paper)))
            for _ in range(30 if paper else 0):
                bent = self.bent(rng, web, deeds, paper)
                try:
                    told = Fraction(*check_near(web, deeds, bent))
                except NoNear:
                    refused += 1
                    continue
                let_by += bent != paper
                self.assertLessEqual(Fraction(*check_near(web, deeds, paper)), told)
                self.nearness(rng, web, deeds, told)
        self.assertGreater(min(let_by, refused), 30)


class ToldTest(unittest.TestCase):
    def test_told_again_the_same(self):
        for web, deeds in ((PAIR, THREE_ROUNDS), (CHAIN, round_deeds(CHAIN, 6)), (STAR, star_deeds(3))):
            paper = near_paper(web, deeds)
            kept = copy.deepcopy(paper)
            self.assertTrue(paper)
            for begin, end, walks in paper:
                walks.clear()
            paper.clear()
            self.assertEqual(near_paper(web, deeds), kept)

    def test_the_walks_of_two_spells_are_lists_of_their_own(self):
        paper = near_paper(PAIR, THREE_ROUNDS)
        paper[0][2].clear()
        self.assertEqual(len(paper[1][2]), 4)

    def test_what_is_handed_in_stays(self):
        web, deeds = copy.deepcopy((CHAIN, round_deeds(CHAIN, 4)))
        near_paper(web, deeds)
        self.assertEqual((web, deeds), (CHAIN, round_deeds(CHAIN, 4)))

    def test_the_order_of_the_web_is_nothing(self):
        web = ([CHAIN[0][2], CHAIN[0][0], CHAIN[0][1]], [("b", "c"), ("b", "a")])
        deeds = round_deeds(CHAIN, 5)
        self.assertEqual(near_paper(web, deeds), near_paper(CHAIN, deeds))

    def test_kinds(self):
        paper = near_paper(CHAIN, round_deeds(CHAIN, 5))
        self.assertIs(type(paper), list)
        for spell in paper:
            self.assertEqual([type(thing) for thing in spell], [int, int, list])
            for walk in spell[2]:
                self.assertEqual([type(thing) for thing in walk], [str, str, tuple])


class RefusalTest(unittest.TestCase):
    def test_webs(self):
        for web in odd_things() + [([], []), ([("a", (1,))], [("a", "b")])]:
            for deeds in (TWO_ROUNDS, [], None, [None], [("come", 0)]):
                with self.assertRaises(BadWeb):
                    near_paper(web, deeds)

    def no_deed(self, deeds):
        with self.assertRaises(NoDeed):
            near_paper(PAIR, deeds)

    def test_deeds(self):
        for thing in odd_things() + [tuple(TWO_ROUNDS)]:
            if not isinstance(thing, list):
                self.no_deed(thing)
            self.no_deed([thing])
            self.no_deed(TWO_ROUNDS + [thing])
        for deed in [("fall", "a"), ("back", "a"), ("fresh", "a"), ("leave", "a"), ("set", "a", (5,)),
                     ("join", "c", (1,)), ("cut", "a", "b"), ("tie", "a", "b"), ("turn", "c"), ("come", 4),
                     ("come", True), ("come", -1), ["turn", "a"]]:
            self.no_deed([deed])
            self.no_deed(TWO_ROUNDS + [deed])

import copy
import itertools
import random
import unittest
from fractions import Fraction

from sumtold.errors import BadWeb, NoDeed, NoNear
from sumtold.near import Look, check_near, walk_part
from sumtold.rounds import rounds
from sumtold.run import Run
from tests.odd import odd_things
from tests.walks import quiet_places, spell_of, walks_between
from tests.worlds import fraction, random_deed, random_web

PAIR = ([("a", (5,)), ("b", (7,))], [("a", "b")])
CHAIN = ([("a", (1,)), ("b", (2,)), ("c", (3,))], [("a", "b"), ("c", "b")])
# Two full rounds of two hands: 0 turn a, 1 turn b, 2 and 3 come; 4 turn a, 5 turn b, 6 and 7 come (and so on).
ROUND = [("turn", "a"), ("turn", "b")]
TWO_ROUNDS = ROUND + [("come", 0), ("come", 1)] + ROUND + [("come", 2), ("come", 3)]
GO = [("a", "a", ()), ("a", "b", ((4, "b"),)), ("b", "a", ((5, "a"),)), ("b", "b", ())]
SPELL = (0, 8, GO)
THREE_ROUNDS = TWO_ROUNDS + ROUND + [("come", 4), ("come", 5)]
SECOND = (8, 12, [("a", "a", ()), ("a", "b", ((8, "b"),)), ("b", "a", ((9, "a"),)), ("b", "b", ())])


class NearTest(unittest.TestCase):
    def at(self, web, deeds, paper):
        with self.assertRaises(NoNear) as caught:
            check_near(web, deeds, paper)
        return caught.exception.at

    def wrong(self, *spells, deeds=TWO_ROUNDS, web=PAIR):
        for spell in spells:
            self.assertEqual(self.at(web, deeds, [spell]), 0)

    def wrong_behind(self, *spells):
        for spell in spells:
            self.assertEqual(self.at(PAIR, THREE_ROUNDS, [SPELL, spell]), 1)

    def wrong_walks(self, *walks):
        for told in walks:
            self.wrong((0, 8, told))


class PairTest(NearTest):
    def test_no_spells(self):
        for deeds in ([], TWO_ROUNDS):
            self.assertEqual(check_near(PAIR, deeds, []), (1, 1))

    def test_two_rounds(self):
        self.assertEqual(check_near(PAIR, TWO_ROUNDS, [SPELL]), (1, 2))
        self.assertEqual(check_near(PAIR, TWO_ROUNDS, [(4, 8, GO)]), (1, 2))
        self.assertEqual(check_near(PAIR, TWO_ROUNDS, [(2, 8, GO)]), (1, 2))

    def test_spells_are_multiplied(self):
        self.assertEqual(check_near(PAIR, THREE_ROUNDS, [SPELL, SECOND]), (1, 4))
        self.assertEqual(check_near(PAIR, THREE_ROUNDS, [SECOND]), (1, 2))
        self.assertEqual(check_near(PAIR, THREE_ROUNDS, [(0, 12, [
            ("a", "a", ()), ("a", "b", ((4, "b"),)), ("b", "a", ((9, "a"),)), ("b", "b", ()),
        ])]), (3, 4))

    def test_one_hand(self):
        web = ([("a", (5,))], [])
        self.assertEqual(check_near(web, [("turn", "a")], [(0, 1, [("a", "a", ())])]), (0, 1))
        self.wrong((0, 1, []), (0, 1, [("a", "a", ((0, "a"),))]), deeds=[("turn", "a")], web=web)

    def test_there_and_back(self):
        walks = [("a", "a", ((4, "b"), (9, "a"))), ("a", "b", ((8, "b"),)), ("b", "a", ((9, "a"),)), ("b", "b", ())]
        self.assertEqual(check_near(PAIR, THREE_ROUNDS, [(0, 12, walks)]), (3, 4))

    def test_three_open_ties_and_shares(self):
        web = ([(name, (1,)) for name in "abcd"], [("a", "b"), ("c", "a"), ("a", "d")])
        deeds = [("turn", name) for name in "bcd"] + [("come", k) for k in range(3)]
        deeds += [("turn", "a")] + [("come", k) for k in (3, 4, 5)]
        deeds += [("turn", name) for name in "bcd"] + [("come", k) for k in (6, 7, 8)]
        deeds += [("turn", "a")] + [("come", k) for k in (9, 10, 11)]
        table = walks_between(web, deeds, 0, len(deeds))
        spell, part = spell_of(table, 0, len(deeds), max)
        # From a to a and through no other one: it stays twice, with 4 less 3 by 4; else 1 by 4, 1 by 2, 1 by 4.
        self.assertEqual(part, Fraction(1, 16))
        self.assertEqual(check_near(web, deeds, [spell]), (15, 16))

    def test_a_later_gift_is_taken_in_its_stead(self):
        # b's first gift (2) comes never, its second (3) has both.
        deeds = [("turn", "a"), ("come", 0), ("turn", "b"), ("turn", "b"), ("come", 2), ("turn", "a"), ("come", 3)]
        walks = [("a", "a", ()), ("a", "b", ((5, "b"),)), ("b", "a", ((2, "a"),)), ("b", "b", ())]
        # From b to a: gone by turn 2, it stays at a by turn 5; gone by turn 3, it stayed at b by turn 2 too.
        self.assertEqual(check_near(PAIR, deeds, [(0, 7, walks)]), (3, 4))
        walks[2] = ("b", "a", ((3, "a"),))
        self.assertEqual(check_near(PAIR, deeds, [(0, 7, walks)]), (7, 8))

    def test_an_elder_gift_does_not_bring_a_walk(self):
        # The walk goes by turn 3; letter 1 is taken ahead of it, and brings none but the first gift.
        deeds = [("turn", "a"), ("come", 0), ("turn", "b"), ("turn", "b"), ("come", 1), ("turn", "a"), ("come", 2),
                 ("come", 3)]
        self.assertEqual(quiet_places(PAIR, deeds), [0, 1, 2, 8])
        walks = [("a", "a", ((5, "b"),)), ("a", "b", ((5, "b"),)), ("b", "a", ((3, "a"),)), ("b", "b", ())]
        self.wrong((0, 8, walks), deeds=deeds)
        walks[0] = ("a", "a", ())
        self.assertEqual(check_near(PAIR, deeds, [(0, 8, walks)]), (3, 4))
        # Gone by turn 2 it stands at a from deed 4 on, and so turn 5 is one of its own.
        walks[2] = ("b", "a", ((2, "a"),))
        self.assertEqual(check_near(PAIR, deeds, [(0, 8, walks)]), (3, 4))
        walks[3] = ("b", "b", ((2, "a"), (5, "b")))
        self.assertEqual(check_near(PAIR, deeds, [(0, 8, walks)]), (3, 4))
        walks[3] = ("b", "b", ((3, "a"), (5, "b")))
        self.wrong((0, 8, walks), deeds=deeds)

    def test_more_than_sixty_deeds_are_no_fault(self):
        deeds = [row[0] for row in rounds(PAIR, 17).book()]
        self.assertEqual(len(deeds), 68)
        self.assertEqual(check_near(PAIR, deeds, [SPELL]), (1, 2))


class PaperTest(NearTest):
    def test_no_list(self):
        for thing in odd_things() + [(SPELL,), {0: SPELL}]:
            if not isinstance(thing, list):
                self.assertEqual(self.at(PAIR, TWO_ROUNDS, thing), -1)

    def test_the_first_wrong_spell(self):
        self.assertEqual(self.at(PAIR, THREE_ROUNDS, [None, SPELL, None]), 0)
        self.assertEqual(self.at(PAIR, THREE_ROUNDS, [SPELL, SECOND, None, None]), 2)
        self.assertEqual(self.at(PAIR, THREE_ROUNDS, [SECOND, SPELL]), 1)

    def test_no_spell(self):
        for thing in odd_things():
            self.wrong(thing)
            self.wrong_behind(thing)
            self.wrong((thing, 8, GO), (0, thing, GO), (0, 8, thing))
        self.wrong((0, 8), (0, 8, GO, GO), [0, 8, GO], (), (8, 0, GO), (GO, 0, 8))

    def test_places(self):
        self.wrong((-1, 8, GO), (0, 9, GO), (0, 10 ** 30, GO), (8, 8, GO), (0, 0, GO), (8, 4, GO), (False, 8, GO))
        self.wrong((0, True, GO), ("0", 8, GO), (0, None, GO), (-8, -1, GO), (0, -1, GO))
        self.assertEqual(quiet_places(PAIR, TWO_ROUNDS), [0, 1, 2, 3, 4, 8])
        for place in (5, 6, 7):
            self.wrong((place, 8, GO), (0, place, GO))
            self.wrong((0, place, [("a", "a", ()), ("a", "b", ()), ("b", "a", ()), ("b", "b", ())]))

    def test_places_that_are_not_quiet_though_the_walks_are_right(self):
        self.assertEqual(quiet_places(PAIR, THREE_ROUNDS), [0, 1, 2, 3, 4, 8, 12])
        self.wrong((0, 9, GO), (0, 10, GO), (0, 11, GO), deeds=THREE_ROUNDS)
        for place in (5, 6, 7):
            self.wrong((place, 12, SECOND[2]), deeds=THREE_ROUNDS)
        self.assertEqual(check_near(PAIR, THREE_ROUNDS, [(4, 12, SECOND[2])]), (3, 4))

    def test_begin_below_end(self):
        web = ([("a", (5,))], [])
        walks = [("a", "a", ())]
        deeds = [("turn", "a")] * 2
        self.wrong((0, 0, walks), (1, 1, walks), (2, 2, walks), (2, 1, walks), web=web, deeds=deeds)
        self.assertEqual(check_near(web, deeds, [(0, 1, walks), (1, 2, walks)]), (0, 1))

    def test_spells_behind_one_another(self):
        walks = SECOND[2]
        self.wrong_behind((4, 12, walks), (0, 12, walks), SPELL, (0, 8, GO), (12, 12, walks))
        self.assertEqual(check_near(PAIR, THREE_ROUNDS, [(4, 8, GO), SECOND]), (1, 4))

    def test_how_many_walks(self):
        self.wrong_walks([], GO[:3], GO[1:], GO + GO[3:], GO + [("b", "c", ())], [GO[0], GO[3]], tuple(GO), None)
        for at in range(4):
            self.wrong_walks(GO[:at] + GO[at + 1:])
            self.wrong_walks(GO[:at] + [GO[at]] + GO[at:])
            self.wrong_walks(GO[:at] + [GO[at - 1]] + GO[at + 1:])

    def test_walks_rise(self):
        for walks in itertools.permutations(GO):
            if list(walks) != GO:
                self.wrong_walks(list(walks))
        web = (list(reversed(PAIR[0])), [("b", "a")])
        self.assertEqual(check_near(web, TWO_ROUNDS, [SPELL]), (1, 2))

    def test_anything_for_a_walk(self):
        for thing in odd_things():
            for at, (name, other, steps) in enumerate(GO):
                for walk in (thing, (thing, other, steps), (name, thing, steps), [name, other, steps],
                             (name, other), (name, other, steps, thing)):
                    self.wrong_walks(GO[:at] + [walk] + GO[at + 1:])
                if not (isinstance(thing, tuple) and len(thing) == 0):
                    self.wrong_walks(GO[:at] + [(name, other, thing)] + GO[at + 1:])

    def test_anything_for_a_step(self):
        for thing in odd_things():
            for steps in ((thing,), ((thing, "b"),), ((4, thing),), ((4, "b"), thing), (thing, (4, "b")),
                          ((4, "b", thing),), ((4, "b"), (thing, "b")), ([4, "b"],), [(4, "b")]):
                self.wrong_walks([GO[0], ("a", "b", steps), GO[2], GO[3]])


class StepTest(NearTest):
    def steps(self, *steps):
        """The walk from a to b by these steps is none."""
        self.wrong_walks([GO[0], ("a", "b", steps), GO[2], GO[3]])

    def test_wrong_steps(self):
        self.steps()
        self.steps((5, "b"))
        self.steps((5, "a"))
        self.steps((4, "a"))
        self.steps((4, "c"))
        self.steps((6, "b"))
        self.steps((7, "b"))
        self.steps((8, "b"))
        self.steps((-4, "b"))
        self.steps((True, "b"))
        self.steps((4, "b"), (4, "b"))
        self.steps((4, "b"), (5, "a"))
        self.steps((5, "a"), (4, "b"))

    def test_on_a_tie_that_is_not_open(self):
        self.steps((0, "b"))
        self.steps((0, "b"), (4, "b"))
        self.wrong_walks([GO[0], GO[1], ("b", "a", ((1, "a"),)), GO[3]])
        # b's tie to c is not open at 2, though the one to a is.
        deeds = [("turn", "a"), ("come", 0), ("turn", "b"), ("come", 1), ("come", 2)]
        base = [(one, other, ()) for one in "abc" for other in "abc"]
        self.wrong((0, 5, base[:5] + [("b", "c", ((2, "c"),))] + base[6:]), web=CHAIN, deeds=deeds)

    def test_from_begin_on_and_below_end(self):
        self.assertEqual(check_near(PAIR, THREE_ROUNDS, [SECOND]), (1, 2))
        self.wrong_behind((8, 12, GO))
        self.wrong((0, 8, SECOND[2]), deeds=THREE_ROUNDS)

    def test_at_the_end_it_stands_at_the_last_hand(self):
        self.wrong_walks([("a", "a", ((4, "b"),)), GO[1], GO[2], GO[3]])
        self.wrong_walks([GO[0], GO[1], GO[2], ("b", "b", ((5, "a"),))])

    def test_a_walk_on_its_way_at_the_end(self):
        deeds = TWO_ROUNDS[:7]
        self.wrong((0, 7, GO), (4, 7, GO), deeds=deeds)

    def test_a_gift_of_another_tie_does_not_bring_a_walk(self):
        # Gone from b to a by turn 4, it is not at a till deed 8, though c takes b's gift of this turn at deed 5.
        deeds = [("turn", "a"), ("come", 0), ("turn", "c"), ("come", 1), ("turn", "b"), ("come", 3), ("turn", "a"),
                 ("come", 4), ("come", 2)]
        look = Look(CHAIN, deeds)
        self.assertEqual(walk_part(look, (0, 9), ("b", "a"), ((4, "a"),)), (1, 4))
        self.assertEqual(walk_part(look, (0, 9), ("b", "c"), ((4, "c"),)), (1, 4))
        self.assertIsNone(walk_part(look, (0, 9), ("b", "b"), ((4, "a"), (6, "b"))))

    def test_the_part_of_each_walk(self):
        many = 0
        for seed in range(40):
            rng = random.Random(f"walks {seed}")
            web, deeds = random_run(rng, rng.randint(2, 4), 22)
            look = Look(web, deeds)
            quiet = quiet_places(web, deeds)
            begin, end = rng.choice(quiet[:4]), quiet[-1]
            table = walks_between(web, deeds, begin, end)
            for ends, walks in table.items():
                for part, steps in walks[:60]:
                    many += 1
                    self.assertEqual(walk_part(look, (begin, end), ends, steps), (part.numerator, part.denominator))
        self.assertGreater(many, 500)

    def test_all_steps_that_there_are(self):
        """Of small runs each tuple of up to two steps is let by just where it is a walk."""
        let_by = 0
        for seed in range(20):
            rng = random.Random(f"steps {seed}")
            web, deeds = random_run(rng, rng.randint(2, 3), 14)
            for end in quiet_places(web, deeds)[-2:]:
                table = walks_between(web, deeds, 0, end)
                if not all(table.values()):
                    continue
                (begin, end, walks), least = spell_of(table, 0, end, max)
                names = sorted(name for name, numbers in web[0])
                one_step = list(itertools.product(range(-1, end + 1), names))
                choices = [()] + [(step,) for step in one_step] + list(itertools.product(one_step, repeat=2))
                for at, (name, other, steps) in enumerate(walks):
                    right = {told for part, told in table[name, other]}
                    for chosen in rng.sample(choices, min(150, len(choices))) + sorted(right):
                        spell = (begin, end, walks[:at] + [(name, other, chosen)] + walks[at + 1:])
                        if chosen in right:
                            let_by += 1
                            check_near(web, deeds, [spell])
                        else:
                            self.wrong(spell, web=web, deeds=deeds)
        self.assertGreater(let_by, 100)


class RefusalTest(NearTest):
    def test_webs(self):
        for web in odd_things() + [([], []), ([("a", (1,))], [("a", "b")])]:
            for deeds, paper in ((TWO_ROUNDS, []), (None, None), ([None], None)):
                with self.assertRaises(BadWeb):
                    check_near(web, deeds, paper)

    def no_deed(self, deeds):
        for paper in ([], [SPELL], [None], None):
            with self.assertRaises(NoDeed):
                check_near(PAIR, deeds, paper)

    def test_deeds_that_are_no_list(self):
        for thing in odd_things() + [tuple(TWO_ROUNDS), {0: ("turn", "a")}]:
            if not isinstance(thing, list):
                self.no_deed(thing)

    def test_deeds_that_are_none(self):
        for thing in odd_things() + [["turn", "a"], ("turn",), ("turn", "a", "b"), ("come", -1), ("come", True)]:
            self.no_deed([thing])
            self.no_deed(TWO_ROUNDS + [thing])

    def test_deeds_of_other_kinds(self):
        for deed in [("fall", "a"), ("back", "a"), ("fresh", "a"), ("leave", "a"), ("set", "a", (5,)),
                     ("join", "c", (1,)), ("cut", "a", "b"), ("tie", "a", "b")]:
            self.no_deed([deed])
            self.no_deed(TWO_ROUNDS + [deed])

    def test_deeds_that_can_not_be_done(self):
        self.no_deed([("turn", "c")])
        self.no_deed([("come", 0)])
        self.no_deed(TWO_ROUNDS + [("come", 4)])
        self.no_deed([("come", 0)] + TWO_ROUNDS)

    def test_what_is_handed_in_stays(self):
        web, deeds, paper = copy.deepcopy((PAIR, THREE_ROUNDS, [SPELL, SECOND]))
        for _ in range(2):
            self.assertEqual(check_near(web, deeds, paper), (1, 4))
        self.assertEqual((web, deeds, paper), (PAIR, THREE_ROUNDS, [SPELL, SECOND]))
        paper.append((0, 1, []))
        for _ in range(2):
            self.assertEqual(self.at(web, deeds, paper), 2)
        self.assertEqual((web, deeds, paper), (PAIR, THREE_ROUNDS, [SPELL, SECOND, (0, 1, [])]))


def random_run(rng, many_hands, many_deeds):
    """A whole web and turns and comings in it; the last letter of each way comes in the end, so that is quiet."""
    web = random_web(rng, many_hands, rng.randint(1, 2), True)
    run = Run(web)
    while len(run.book()) < many_deeds:
        if rng.random() < 0.6:
            run.do(random_deed(rng, run, ("turn", "come"), 1))
        else:
            first = run.written()
            run.do(("turn", rng.choice(run.names())))
            for k in range(first, run.written()):
                run.do(("come", k))
    last = {run.letter(k)[:2]: k for k in range(run.written())}
    for k in last.values():
        run.do(("come", k))
    return web, [deed for deed, _ in run.book()]


def random_paper(rng, web, deeds):
    """A paper of random walks, and its pair as a fraction."""
    quiet = quiet_places(web, deeds)
    paper, told = [], Fraction(1)
    begin = 0
    for end in quiet:
        if end > begin and rng.random() < 0.5:
            spell = spell_of(walks_between(web, deeds, begin, end), begin, end, rng.choice((max, min, rng.choice)))
            if spell is not None:
                paper.append(spell[0])
                told *= 1 - spell[1]
                begin = end
    return paper, told


class PapersPromiseTest(unittest.TestCase):
    def test_the_parts_of_all_walks_are_what_is_handed_on(self):
        """The walks that the other tests go by are right: together they are what comes from each to each."""
        for seed in range(30):
            rng = random.Random(f"handed on {seed}")
            web, deeds = random_run(rng, rng.randint(1, 4), 14)
            end = quiet_places(web, deeds)[-1]
            table = walks_between(web, deeds, 0, end)
            for name, _ in web[0]:
                run = Run(([(other, (int(other == name),)) for other, _ in web[0]], web[1]))
                for deed in deeds[:end]:
                    run.do(deed)
                for other in run.names():
                    parts = [part for part, steps in table[name, other]]
                    self.assertEqual(fraction(run.held(other)[0]), sum(parts))

    def test_papers(self):
        many = 0
        for seed in range(60):
            rng = random.Random(f"papers {seed}")
            web, deeds = random_run(rng, rng.randint(1, 4), rng.randint(6, 18))
            paper, told = random_paper(rng, web, deeds)
            many += len(paper)
            self.assertEqual(Fraction(*check_near(web, deeds, paper)), told)
            self.nearness(rng, web, deeds, told)
        self.assertGreater(many, 40)

    def nearness(self, rng, web, deeds, told):
        """From whatever own numbers the answers in the end differ by at most the pair times the distance."""
        for _ in range(6):
            numbers = [rng.choice((0, 1, -10 ** 12, 10 ** 12, rng.randint(-9, 9))) for _ in web[0]]
            run = Run(([(name, (number,)) for (name, _), number in zip(web[0], numbers)], web[1]))
            for deed in deeds:
                run.do(deed)
            answers = [Fraction(*run.answer(name)[0]) for name in run.names()]
            self.assertLessEqual(max(answers) - min(answers), told * (max(numbers) - min(numbers)))

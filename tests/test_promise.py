"""The promise over all runs, behind random deeds of all kinds (seeds are fixed, so each run is the same)."""

import copy
import random
import unittest
from fractions import Fraction

from sumtold.rounds import bound, distance, full_round, spread
from sumtold.run import Run
from tests.worlds import (
    ALL_KINDS, STILL, all_up, fractions, random_deed, random_web, steps_away, total,
)


def ties_of(run):
    return [(name, other) for name in run.names() for other in run.others(name)]


def in_joint(run, name, other):
    one, two = run.account(name, other)[0], run.account(other, name)[0]
    return one == run.stamp(other, name) and two == run.stamp(name, other)


def own_numbers(run):
    """The own numbers of each hand there, as its own entry tells them."""
    return {name: entry[3] for name in run.names() for entry in run.roll(name) if entry[0] == name}


def slow_sure(run, name):
    """What is so of all hands to which ties lead from this one."""
    owns = own_numbers(run)
    reached = sorted(steps_away(run, name))
    greatest = []
    for at in range(run.size):
        most = max(owns[other][at] for other in reached)
        greatest.append((most, min(other for other in reached if owns[other][at] == most)))
    return (len(reached), tuple(greatest))


class Watched:
    """A run with what each gift was, by both stamps and its number."""

    def __init__(self, web):
        self.run = Run(web)
        self.size = len(web[0][0][1])
        self.shares = {}

    def do(self, deed):
        if deed[0] != "turn":
            return self.run.do(deed)
        run, name = self.run, deed[1]
        receivers = [other for other in run.others(name) if run.account(name, other)[0] is not None]
        c = min(c for c in range(5) if 2 ** c > len(receivers))
        share = [amount / 2 ** c for amount in fractions(run.held(name))]
        row = run.do(deed)
        for other in receivers:
            account = run.account(name, other)
            self.shares[name, other, run.stamp(name, other), account[0], account[1]] = share
        return row


def watched_runs(label, many, deeds, kinds=ALL_KINDS):
    for seed in range(many):
        rng = random.Random(f"{label} {seed}")
        watched = Watched(random_web(rng))
        for _ in range(deeds):
            deed = random_deed(rng, watched.run, kinds, watched.size)
            if deed is None:
                break
            watched.do(deed)
            yield rng, watched


class WholeTest(unittest.TestCase):
    def test_whole(self):
        for _, watched in watched_runs("whole", 60, 70):
            run, size = watched.run, watched.size
            rows = [run.held(name) for name in run.names()] + [run.on_way(), run.astray()]
            owns = list(own_numbers(run).values())
            whole = [sum(numbers[at] for numbers in owns) for at in range(size)] + [len(owns)]
            self.assertEqual(total(rows, size), whole)
            self.assertEqual(fractions(run.whole()), whole)


class InJointTest(unittest.TestCase):
    def test_in_joint(self):
        many = 0
        for _, watched in watched_runs("joint", 60, 70):
            run = watched.run
            for name, other in ties_of(run):
                if in_joint(run, name, other):
                    seen, gifts, given, _, _ = run.account(name, other)
                    _, _, _, takes, taken = run.account(other, name)
                    self.assertLessEqual(takes, gifts)
                    key = (name, other, run.stamp(name, other), seen)
                    left = [watched.shares[key + (at,)] for at in range(takes + 1, gifts + 1)]
                    sums = [sum(column) for column in zip([Fraction(0)] * (watched.size + 1), *left)]
                    differences = [one - two for one, two in zip(fractions(given), fractions(taken))]
                    self.assertEqual(differences, sums)
                    many += takes < gifts
        self.assertGreater(many, 100)


class HealedTest(unittest.TestCase):
    def heal(self, rng, run):
        all_up(run)
        elder = run.written()
        names = run.names()
        rng.shuffle(names)
        for name in names:
            run.do(("turn", name))
        comings = list(range(elder, run.written()))
        comings += [k for k in comings if rng.random() < 0.3]
        comings += [rng.randrange(elder) for _ in range(10) if elder]
        rng.shuffle(comings)
        for k in comings:
            run.do(("come", k))

    def test_healed(self):
        many = 0
        for rng, watched in watched_runs("healed", 80, 60):
            if rng.random() < 0.12:
                run = copy.deepcopy(watched.run)
                many += any(run.astray()[at] != (0, 0) for at in range(watched.size + 1))
                self.heal(rng, run)
                nought = ((0, 0),) * (watched.size + 1)
                self.assertEqual((run.on_way(), run.astray()), (nought, nought))
                self.assertTrue(all(in_joint(run, name, other) for name, other in ties_of(run)))
                self.assertEqual(total([run.held(name) for name in run.names()], watched.size), fractions(run.whole()))
        self.assertGreater(many, 50)


class NearTest(unittest.TestCase):
    def test_bound_times_distance(self):
        for seed in range(50):
            rng = random.Random(f"near {seed}")
            many_hands = rng.randint(2, 6)
            web = random_web(rng, many_hands, whole=True)
            run = Run(web)
            for _ in range(rng.choice((0, 0, 10, 30))):
                run.do(random_deed(rng, run, ("turn", "come"), run.size))
            owns = [numbers for _, numbers in web[0]]
            for many in range(1, rng.choice((4, 14))):
                full_round(run)
                for at in range(run.size):
                    mean = Fraction(sum(numbers[at] for numbers in owns), many_hands)
                    answers = [Fraction(*run.answer(name)[at]) for name in run.names()]
                    most = Fraction(*bound(web, many)) * distance(web)[at]
                    self.assertLessEqual(max(answers) - min(answers), most)
                    self.assertLessEqual(max(abs(answer - mean) for answer in answers), most)

    def test_the_sum_that_a_sure_hand_tells(self):
        many = 0
        for seed in range(50):
            rng = random.Random(f"sums {seed}")
            hands, ties = random_web(rng, rng.randint(1, 6), 1, rng.random() < 0.7)
            run = Run(([(name, (rng.randint(-3, 3),)) for name, _ in hands], ties))
            for _ in range(30):
                run.do(random_deed(rng, run, STILL, 1))
            all_up(run)
            owns = own_numbers(run)
            for _ in range(25):
                full_round(run)
                width = spread(run)[0]
                if 2 * len(run.names()) * Fraction(*width) >= 1:
                    continue
                for name in run.names():
                    if run.sure(name) is not None:
                        many += 1
                        self.assertEqual(run.sum_of(name), (sum(owns[other][0] for other in steps_away(run, name)),))
        self.assertGreater(many, 200)


class SureTest(unittest.TestCase):
    def test_in_a_run_without_changes(self):
        told = 0
        for _, watched in watched_runs("sure", 60, 60, STILL):
            for name in watched.run.names():
                sure = watched.run.sure(name)
                if sure is not None:
                    told += sure[0] > 1
                    self.assertEqual(sure, slow_sure(watched.run, name))
        self.assertGreater(told, 100)

    def test_behind_the_last_change(self):
        for rng, watched in watched_runs("told sure", 60, 60):
            if rng.random() < 0.1:
                run = copy.deepcopy(watched.run)
                for _ in range(rng.choice((0, 5))):
                    deed = random_deed(rng, run, STILL, watched.size)
                    if deed is not None:
                        run.do(deed)
                all_up(run)
                away = {name: max(steps_away(run, name).values()) for name in run.names()}
                for done in range(max(away.values(), default=0) + 1):
                    for name in run.names():
                        if away[name] <= done:
                            self.assertEqual(run.sure(name), slow_sure(run, name))
                    full_round(run)


class OrderTest(unittest.TestCase):
    def test_order(self):
        for seed in range(40):
            rng = random.Random(f"order {seed}")
            hands, ties = random_web(rng)
            run = Run((hands, ties))
            for _ in range(50):
                deed = random_deed(rng, run, ALL_KINDS, run.size)
                if deed is not None:
                    run.do(deed)
            for _ in range(3):
                web = (rng.sample(hands, len(hands)), [rng.choice((tie, tie[::-1])) for tie in rng.sample(ties, len(ties))])
                other = Run(web)
                for deed, _ in run.book():
                    other.do(deed)
                self.assertEqual(other.book(), run.book())
                self.assertEqual(repr(other.book()), repr(run.book()))

"""Slow readings of walks and papers, by all walks that there are."""

import itertools
import math
from fractions import Fraction

from sumtold.run import Run


def events(web, deeds):
    """Of each deed ("turn", name, {other: gift}), or ("taken", sender, to, gift), or None."""
    run = Run(web)
    told = []
    for deed in deeds:
        what = run.do(deed)[1]
        if deed[0] == "turn":
            is_open = {other: run.account(deed[1], other)[0] is not None for other in run.others(deed[1])}
            gifts = {other: run.account(deed[1], other)[1] for other in is_open if is_open[other]}
            told.append(("turn", deed[1], gifts))
        elif what == "taken":
            letter = run.letter(deed[1])
            told.append(("taken", letter[0], letter[1], run.account(letter[1], letter[0])[3]))
        else:
            told.append(None)
    return told


def quiet_places(web, deeds):
    run = Run(web)
    quiet = []
    for place in range(len(deeds) + 1):
        if place:
            run.do(deeds[place - 1])
        ways = [(one, other) for one in run.names() for other in run.others(one)]
        if all(run.account(one, other)[1] == run.account(other, one)[3] for one, other in ways):
            quiet.append(place)
    return quiet


def least_c(many):
    c = 0
    while 2 ** c <= many:
        c += 1
    return c


def stands_from(told, at, end, name, to, gift):
    """The place from which a walk gone on by deed at stands again, or None."""
    for later in range(at + 1, end):
        event = told[later]
        if event and event[0] == "taken" and event[1:3] == (name, to) and event[3] >= gift:
            return later + 1
    return None


def all_walks(told, begin, end, name):
    """All walks from a hand between two places: a list of (last hand, steps, part)."""
    for at in range(begin, end):
        event = told[at]
        if event and event[:2] == ("turn", name):
            gifts = event[2]
            c = least_c(len(gifts))
            stay = Fraction(2 ** c - len(gifts), 2 ** c)
            found = [(last, steps, stay * part) for last, steps, part in all_walks(told, at + 1, end, name)]
            for to in gifts:
                place = stands_from(told, at, end, name, to, gifts[to])
                if place is not None:
                    for last, steps, part in all_walks(told, place, end, to):
                        found.append((last, ((at, to),) + steps, Fraction(1, 2 ** c) * part))
            return found
    return [(name, (), Fraction(1))]


def walks_between(web, deeds, begin, end):
    """Of each two hands, and each and itself, the list of (part, steps) of all walks."""
    told = events(web, deeds)
    names = sorted(name for name, numbers in web[0])
    table = {(one, other): [] for one in names for other in names}
    for name in names:
        for last, steps, part in all_walks(told, begin, end, name):
            table[name, last].append((part, steps))
    return table


def spell_of(table, begin, end, choose):
    """A spell with one walk of each two hands, as choose takes it, and the least part of them; None where one lacks."""
    if not all(table.values()):
        return None
    chosen = {ends: choose(table[ends]) for ends in table}
    walks = [(one, other, chosen[one, other][1]) for one, other in sorted(table)]
    return (begin, end, walks), min(part for part, steps in chosen.values())


def spell_tables(web, deeds):
    """Of each two quiet places, rising, the walks between them."""
    places = itertools.combinations(quiet_places(web, deeds), 2)
    return {(begin, end): walks_between(web, deeds, begin, end) for begin, end in places}


def how_many_papers(tables, behind=0):
    """How many papers there are that begin at this place or behind it."""
    many = 1
    for (begin, end), table in tables.items():
        if begin >= behind and all(table.values()):
            many += math.prod(len(walks) for walks in table.values()) * how_many_papers(tables, end)
    return many


def all_papers(tables, behind=0):
    """All papers that begin at this place or behind it, each choice of walks one by one."""
    yield []
    for (begin, end), table in tables.items():
        ways = sorted(table)
        if begin >= behind:
            for chosen in itertools.product(*[table[way] for way in ways]):
                walks = [(one, other, steps) for (one, other), (_, steps) in zip(ways, chosen)]
                for rest in all_papers(tables, end):
                    yield [(begin, end, walks)] + rest


def greatest_part(told, begin, end, name, last):
    """The greatest part of a walk from a hand to a last one between two places, or None; from the end backwards."""
    ahead = {(end, last): Fraction(1)}
    for at in range(end - 1, begin - 1, -1):
        event = told[at]
        for place, hand in [key for key in ahead if key[0] == at + 1]:
            ahead[at, hand] = ahead[place, hand]
        if event and event[0] == "turn":
            _, turner, gifts = event
            c = least_c(len(gifts))
            found = [ahead[at + 1, turner] * (2 ** c - len(gifts))] if (at + 1, turner) in ahead else []
            for to in gifts:
                place = stands_from(told, at, end, turner, to, gifts[to])
                if (place, to) in ahead:
                    found.append(ahead[place, to])
            if found:
                ahead[at, turner] = max(found) / 2 ** c
    return ahead.get((begin, name))


def least_pair(web, deeds):
    """The least pair that a paper has, as a fraction: of the best walks and all chains of spells."""
    told = events(web, deeds)
    quiet = quiet_places(web, deeds)
    names = sorted(name for name, numbers in web[0])
    behind = {}
    for begin in reversed(quiet):
        behind[begin] = min([behind[place] for place in behind], default=Fraction(1))
        for end in [place for place in quiet if place > begin]:
            parts = [greatest_part(told, begin, end, one, other) for one in names for other in names]
            if None not in parts:
                behind[begin] = min(behind[begin], (1 - min(parts)) * behind[end])
    return behind[0]

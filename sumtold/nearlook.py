"""Papers of nearness, looked for beside a web and deeds: none has a lesser pair."""

from sumtold.near import Look
from sumtold.pairs import halvings, part, part_less


def part_times(one, other):
    return part(one[0] * other[0], one[1] + other[1])


def is_part_below(one, other):
    return part_less(one, other)[0] < 0


class Best:
    """Of all walks from one hand those of the greatest part, (part, steps), by where they stand or go."""

    def __init__(self, first):
        self.standing = {first: ((1, 0), ())}
        self.going = {}

    def pass_move(self, at, move):
        if move.turner is not None:
            self.pass_turn(at, move.turner, move.gifts)
        elif move.taking is not None:
            self.pass_taking(move.taking)

    def pass_turn(self, at, turner, gifts):
        if turner not in self.standing:
            return
        worth, steps = self.standing[turner]
        c = halvings(len(gifts))
        gone = part_times(worth, (1, c))
        for to in gifts:
            self.going[(turner, to, gifts[to])] = (gone, steps + ((at, to),))
        self.standing[turner] = (part_times(worth, part((1 << c) - len(gifts), c)), steps)

    def pass_taking(self, taking):
        sender, to, last = taking
        brought = [way for way in self.going if way[:2] == (sender, to) and way[2] <= last]
        for way in brought:
            self.bring(to, self.going[way])
            del self.going[way]

    def bring(self, to, walk):
        if to not in self.standing or is_part_below(self.standing[to][0], walk[0]):
            self.standing[to] = walk


def least_part(walks):
    least = (1, 0)
    for worth, steps in walks:
        if is_part_below(worth, least):
            least = worth
    return least


def best_spell(begin, end, names, bests):
    """The spell of the best walks and what it leaves, 1 less its part; None where a walk lacks."""
    ways = [(name, other) for name in names for other in names]
    if not all(other in bests[name].standing for name, other in ways):
        return None
    found = {(name, other): bests[name].standing[other] for name, other in ways}
    walks = [(name, other, found[(name, other)][1]) for name, other in ways]
    return ((begin, end, walks), part_less((1, 0), least_part([found[way] for way in ways])))


def spells_from(look, begin):
    """The best spells that begin at this place, one for each end that has one, each with what it leaves."""
    names = look.hand_names
    bests = {name: Best(name) for name in names}
    spells = []
    for at in range(begin, len(look.moves)):
        for name in names:
            bests[name].pass_move(at, look.moves[at])
        if look.quiet[at + 1]:
            spell = best_spell(begin, at + 1, names, bests)
            if spell is not None:
                spells.append(spell)
    return spells


def near_paper(web, deeds):
    look = Look(web, deeds)
    # The least chain of spells up to a place, (what it leaves, spells); chains has those that end just there.
    least = ((1, 0), ())
    chains = {}
    for place in range(len(look.quiet)):
        if place in chains and is_part_below(chains[place][0], least[0]):
            least = chains[place]
        if look.quiet[place]:
            for spell, left in spells_from(look, place):
                end = spell[1]
                chain = (part_times(least[0], left), least[1] + (spell,))
                if end not in chains or is_part_below(chain[0], chains[end][0]):
                    chains[end] = chain
    return list(least[1])

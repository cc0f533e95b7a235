"""Papers of nearness, checked beside a web and deeds."""

from sumtold.errors import NoDeed, NoNear
from sumtold.forms import is_tuple_of
from sumtold.pairs import below, halvings, is_whole_number, less, pair, times
from sumtold.run import Run
from sumtold.webs import is_deed, is_name


class Move:
    """What a deed is to walks: a turn with its gifts on open ties, or the taking of a gift."""

    def __init__(self, turner, gifts, taking):
        self.turner = turner
        self.gifts = gifts
        self.taking = taking


def turn_move(name, letters):
    # Only a letter of an open tie has a seen, and so a gift of this turn.
    return Move(name, {letter[1]: letter[4] for letter in letters if letter[3] is not None}, None)


def coming_move(letter, word):
    taking = (letter[0], letter[1], letter[4]) if word == "taken" else None
    return Move(None, {}, taking)


def move_by(run, deed):
    if not is_deed(deed) or deed[0] not in ("turn", "come"):
        raise NoDeed("this is neither a turn nor a coming")
    word, thing = deed
    what = run.do(deed)[1]
    if word == "turn":
        return turn_move(thing, what)
    return coming_move(run.letter(thing), what)


def is_quiet(run):
    ways = [(name, other) for name in run.names() for other in run.others(name)]
    return all(run.account(name, other)[1] == run.account(other, name)[3] for name, other in ways)


class Look:
    """The run of a web by turns and comings: its names, its moves, and which places are quiet."""

    def __init__(self, web, deeds):
        run = Run(web)
        if not isinstance(deeds, list):
            raise NoDeed("the deeds are no list")
        self.hand_names = run.names()
        self.moves = []
        self.quiet = [is_quiet(run)]
        for deed in deeds:
            self.moves.append(move_by(run, deed))
            self.quiet.append(is_quiet(run))

    def is_quiet_place(self, place):
        return is_whole_number(place) and 0 <= place < len(self.quiet) and self.quiet[place]


class Walk:
    """A walk as it goes; where is None while it is on its way, awaited is then the gift with which it goes."""

    def __init__(self, first, steps):
        self.where = first
        self.awaited = None
        self.steps = steps
        self.gone = 0
        self.worth = (1, 1)

    def goes_by(self, at):
        return self.gone < len(self.steps) and self.steps[self.gone][0] == at

    def turned(self, at, gifts):
        shares = 1 << halvings(len(gifts))
        if not self.goes_by(at):
            self.worth = times(self.worth, pair(shares - len(gifts), shares))
            return
        to = self.steps[self.gone][1]
        if to in gifts:
            self.worth = times(self.worth, pair(1, shares))
            self.awaited = (self.where, to, gifts[to])
            self.where = None
            self.gone += 1

    def taken(self, taking):
        sender, to, gift = self.awaited
        if taking[:2] == (sender, to) and taking[2] >= gift:
            self.where = to

    def go(self, at, move):
        if self.where is None:
            if move.taking is not None:
                self.taken(move.taking)
        elif move.turner == self.where:
            self.turned(at, move.gifts)


def is_step(thing):
    return is_tuple_of(thing, 2) and is_whole_number(thing[0]) and is_name(thing[1])


def walk_part(look, places, ends, steps):
    """The part of the walk between these places from the one of these ends to the other one, or None."""
    if not isinstance(steps, tuple) or not all(is_step(step) for step in steps):
        return None
    walk = Walk(ends[0], steps)
    for at in range(places[0], places[1]):
        walk.go(at, look.moves[at])
    # A step that could not be gone is never passed, so some are left then.
    if walk.gone < len(steps) or walk.where != ends[1]:
        return None
    return walk.worth


def is_walk_of(thing, ends):
    if not is_tuple_of(thing, 3) or not is_name(thing[0]) or not is_name(thing[1]):
        return False
    return thing[:2] == ends


def walks_part(look, places, walks):
    """The least of the parts of these walks, or None where they aren't the walks of a spell."""
    ways = [(name, other) for name in look.hand_names for other in look.hand_names]
    if not isinstance(walks, list) or len(walks) != len(ways):
        return None
    if not all(is_walk_of(walk, ends) for walk, ends in zip(walks, ways)):
        return None
    least = (1, 1)
    for name, other, steps in walks:
        worth = walk_part(look, places, (name, other), steps)
        if worth is None:
            return None
        if below(worth, least):
            least = worth
    return least


def spell_part(look, spell, behind):
    """The part of a spell that begins at this place or behind it, or None of what is no such spell."""
    if not is_tuple_of(spell, 3):
        return None
    begin, end, walks = spell
    if not look.is_quiet_place(begin) or not look.is_quiet_place(end):
        return None
    if not behind <= begin < end:
        return None
    return walks_part(look, (begin, end), walks)


def check_near(web, deeds, paper):
    look = Look(web, deeds)
    if not isinstance(paper, list):
        raise NoNear(-1)
    told = (1, 1)
    behind = 0
    for at, spell in enumerate(paper):
        worth = spell_part(look, spell, behind)
        if worth is None:
            raise NoNear(at)
        told = times(told, less((1, 1), worth))
        behind = spell[1]
    return told

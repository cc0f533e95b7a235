"""Runs: hands of a web, the deeds done with them, their letters and their book."""

from sumtold.errors import NoDeed
from sumtold.hand import Hand
from sumtold.pairs import is_whole_number, nearest, own_row, row_less, row_plus, times, zero_row
from sumtold.webs import MOST_HANDS, check_web, is_deed, is_name, tied_to


def require(can, why):
    if not can:
        raise NoDeed(why)


def do_turn(run, name):
    require(run.is_up(name), "one who is away can't turn")
    letters = tuple(run.hands[name].turn())
    run.letters.extend(letters)
    return letters


def do_come(run, k):
    letter = run.letter(k)
    to = letter[1]
    if to not in run.hands or not run.is_up(to):
        return ""
    return run.hands[to].take(letter)


def do_fall(run, name):
    require(run.is_up(name), "one who is away can't fall")
    run.ups[name] = False
    return ()


def do_back(run, name):
    require(not run.is_up(name), "one who is up can't come back")
    run.ups[name] = True
    return ()


def do_fresh(run, name):
    run.there(name).fresh()
    run.ups[name] = True
    return ()


def do_set(run, name, numbers):
    hand = run.there(name)
    require(len(numbers) == run.size, "the numbers aren't as many as all have")
    hand.set_own(numbers)
    return ()


def do_tie(run, name, other):
    one, another = run.there(name), run.there(other)
    require(other not in one.others(), "there is a tie already")
    one.tie(other)
    another.tie(name)
    return ()


def do_cut(run, name, other):
    one, another = run.tied(name, other), run.tied(other, name)
    one.cut(other)
    another.cut(name)
    return ()


def do_join(run, name, numbers):
    require(name not in run.known, "this name was in the run before")
    require(len(run.hands) < MOST_HANDS, "as many hands are there as may be")
    require(len(numbers) == run.size, "the numbers aren't as many as all have")
    run.hands[name] = Hand(name, numbers, [])
    run.ups[name] = True
    run.known[name] = True
    return ()


def do_leave(run, name):
    others = run.others(name)
    for other in others:
        run.hands[other].cut(name)
    del run.hands[name]
    del run.ups[name]
    return ()


ACTIONS = {
    "turn": do_turn,
    "come": do_come,
    "fall": do_fall,
    "back": do_back,
    "fresh": do_fresh,
    "set": do_set,
    "tie": do_tie,
    "cut": do_cut,
    "join": do_join,
    "leave": do_leave,
}


def is_in_joint(one, other):
    seen_by_one = one.account(other.name)[0]
    seen_by_other = other.account(one.name)[0]
    return seen_by_one == other.stamp(one.name) and seen_by_other == one.stamp(other.name)


class Run:
    """A run of a web; known has all names that ever were in it, size is how many numbers each has."""

    def __init__(self, web):
        check_web(web)
        hands, ties = web
        self.hands = {name: Hand(name, numbers, tied_to(name, ties)) for name, numbers in hands}
        self.ups = {name: True for name, numbers in hands}
        self.known = {name: True for name, numbers in hands}
        self.size = len(hands[0][1])
        self.letters = []
        self.rows = []

    def do(self, deed):
        require(is_deed(deed), "this is no deed")
        word, *rest = deed
        action = ACTIONS[word]
        row = (deed, action(self, *rest))
        self.rows.append(row)
        return row

    def there(self, name):
        """The hand of this name, of those there."""
        require(is_name(name) and name in self.hands, "no hand of this name is there")
        return self.hands[name]

    def tied(self, name, other):
        """The hand of this name, where it has a tie to the other one."""
        hand = self.there(name)
        require(is_name(other) and other in hand.others(), "there is no such tie")
        return hand

    def names(self):
        return sorted(self.hands)

    def others(self, name):
        return self.there(name).others()

    def is_up(self, name):
        self.there(name)
        return self.ups[name]

    def held(self, name):
        return self.there(name).held()

    def answer(self, name):
        return self.there(name).answer()

    def sure(self, name):
        return self.there(name).sure()

    def roll(self, name):
        return self.there(name).roll()

    def stamp(self, name, other):
        return self.tied(name, other).stamp(other)

    def account(self, name, other):
        return self.tied(name, other).account(other)

    def sum_of(self, name):
        means = self.answer(name)
        told = self.sure(name)
        if means is None or told is None:
            return None
        return tuple(nearest(times(mean, (told[0], 1))) for mean in means)

    def written(self):
        """How many letters are written."""
        return len(self.letters)

    def letter(self, k):
        require(is_whole_number(k) and 0 <= k < len(self.letters), "no letter is written by this number")
        return self.letters[k]

    def book(self):
        return list(self.rows)

    def not_taken(self, in_joint):
        """All given less all taken of the ties that are in joint, or of those that aren't."""
        row = zero_row(self.size)
        for name in self.names():
            for other in self.others(name):
                if is_in_joint(self.hands[name], self.hands[other]) == in_joint:
                    seen, gifts, given, takes, taken = self.account(name, other)
                    row = row_plus(row, row_less(given, taken))
        return row

    def on_way(self):
        return self.not_taken(True)

    def astray(self):
        return self.not_taken(False)

    def whole(self):
        row = zero_row(self.size)
        for name in self.names():
            row = row_plus(row, own_row(self.hands[name].numbers()))
        return row

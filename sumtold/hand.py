"""A hand: its numbers and ties, its accounts, and the roll of what it has heard."""

from sumtold.errors import BadBooks
from sumtold.forms import is_books
from sumtold.pairs import halvings, own_row, part_over, row_halved, row_less, row_plus, zero_row
from sumtold.rolls import merged, sure_of


def account_at_first(seen, many):
    return (seen, 0, zero_row(many), 0, zero_row(many))


class Hand:
    """One hand; eras and accounts are kept by the others' names."""

    def __init__(self, name, numbers, others):
        self.name = name
        self.own = numbers
        self.life = 1
        self.version = 1
        self.eras = {other: 0 for other in others}
        self.accounts = {other: account_at_first(None, len(numbers)) for other in others}
        self.heard = (self.own_entry(),)

    def numbers(self):
        return self.own

    def others(self):
        return sorted(self.accounts)

    def stamp(self, other):
        return (self.life, self.eras.get(other, 0))

    def account(self, other):
        return self.accounts[other]

    def held(self):
        row = own_row(self.own)
        for other in self.others():
            seen, gifts, given, takes, taken = self.accounts[other]
            row = row_plus(row, row_less(taken, given))
        return row

    def answer(self):
        *amounts, weight = self.held()
        if weight[0] <= 0:
            return None
        return tuple(part_over(amount, weight) for amount in amounts)

    def roll(self):
        return self.heard

    def sure(self):
        return sure_of(self.heard, self.name)

    def own_entry(self):
        return (self.name, self.life, self.version, self.own, tuple(self.others()))

    def open_ties(self):
        return [other for other in self.others() if self.accounts[other][0] is not None]

    def turn(self):
        receivers = self.open_ties()
        share = row_halved(self.held(), halvings(len(receivers)))
        for other in receivers:
            seen, gifts, given, takes, taken = self.accounts[other]
            self.accounts[other] = (seen, gifts + 1, row_plus(given, share), takes, taken)
        return [self.letter_to(other) for other in self.others()]

    def letter_to(self, other):
        seen, gifts, given, takes, taken = self.accounts[other]
        return (self.name, other, self.stamp(other), seen, gifts, given, self.heard)

    def take(self, letter):
        sender, to, stamp, seen, gifts, given, roll = letter
        if sender not in self.accounts:
            return ""
        last = self.accounts[sender][0]
        if last is not None and stamp < last:
            return ""
        if last is None or stamp > last:
            # The sender begins anew, so what was between the two is void at this end too.
            self.accounts[sender] = account_at_first(stamp, len(self.own))
        self.heard = merged(self.heard, roll)
        # A letter to an elder stamp tells of an account that this hand no longer keeps.
        if seen != self.stamp(sender) or gifts <= self.accounts[sender][3]:
            return "heard"
        self.accounts[sender] = self.accounts[sender][:3] + (gifts, given)
        return "taken"

    def tell_change(self):
        self.version += 1
        rest = tuple(entry for entry in self.heard if entry[0] != self.name)
        self.heard = merged((self.own_entry(),), rest)

    def set_own(self, numbers):
        self.own = numbers
        self.tell_change()

    def tie(self, other):
        # The era outlives a cut: letters of the tie that was are known by it.
        self.eras[other] = self.eras.get(other, 0)
        self.accounts[other] = account_at_first(None, len(self.own))
        self.tell_change()

    def cut(self, other):
        del self.accounts[other]
        self.eras[other] += 1
        self.tell_change()

    def fresh(self):
        others = self.others()
        self.life += 1
        self.version = 1
        self.eras = {other: 0 for other in others}
        self.accounts = {other: account_at_first(None, len(self.own)) for other in others}
        self.heard = (self.own_entry(),)

    def books(self):
        eras = tuple((other, self.eras[other]) for other in sorted(self.eras))
        accounts = tuple((other,) + self.accounts[other] for other in self.others())
        return (self.name, self.life, self.version, self.own, eras, accounts, self.heard)


def hand_of(books):
    if not is_books(books):
        raise BadBooks("these are no books of a hand")
    name, life, version, numbers, eras, accounts, roll = books
    hand = Hand(name, numbers, [])
    hand.life = life
    hand.version = version
    hand.eras = {other: era for other, era in eras}
    hand.accounts = {account[0]: account[1:] for account in accounts}
    hand.heard = roll
    return hand

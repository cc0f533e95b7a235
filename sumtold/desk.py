"""The desk: a run that is told rows of text, and answers by texts."""

from sumtold.errors import NoDeed, NoRow, NoText
from sumtold.judge import judge
from sumtold.run import Run
from sumtold.texts import book_text, coming_text, entry_text, letter_text, number_text, row_text, stamp_text
from sumtold.texts import read_book, read_deed, read_number
from sumtold.webs import is_name


def names_text(run):
    return " ".join(run.names()) if run.names() else "-"


def up_text(run, name):
    return "yes" if run.is_up(name) else "no"


def held_text(run, name):
    return row_text(run.held(name))


def answer_text(run, name):
    means = run.answer(name)
    if means is None:
        return "none"
    return " ".join(f"{number_text(num)}/{number_text(den)}" for num, den in means)


def sum_text(run, name):
    sums = run.sum_of(name)
    if sums is None:
        return "none"
    return " ".join(number_text(number) for number in sums)


def sure_text(run, name):
    told = run.sure(name)
    if told is None:
        return "none"
    count, greatest = told
    return " ".join([number_text(count)] + [f"{number_text(number)}@{haver}" for number, haver in greatest])


def roll_text(run, name):
    return " ".join(entry_text(entry) for entry in run.roll(name))


def stamp_towards(run, name, other):
    return stamp_text(run.stamp(name, other))


def account_text(run, name, other):
    seen, gifts, given, takes, taken = run.account(name, other)
    return f"{stamp_text(seen)} {number_text(gifts)} {row_text(given)} {number_text(takes)} {row_text(taken)}"


def way_text(run):
    return row_text(run.on_way())


def astray_text(run):
    return row_text(run.astray())


def whole_text(run):
    return row_text(run.whole())


def whole_book_text(run):
    return book_text(run.book())


# By the word and by how many names are behind it.
QUESTIONS = {
    ("names", 0): names_text,
    ("up", 1): up_text,
    ("held", 1): held_text,
    ("answer", 1): answer_text,
    ("sum", 1): sum_text,
    ("sure", 1): sure_text,
    ("roll", 1): roll_text,
    ("stamp", 2): stamp_towards,
    ("account", 2): account_text,
    ("way", 0): way_text,
    ("astray", 0): astray_text,
    ("whole", 0): whole_text,
    ("book", 0): whole_book_text,
}


def read_hand(words):
    if len(words) < 2 or not is_name(words[0]):
        raise NoRow("a hand has a name and a number at least")
    return (words[0], tuple(read_number(word) for word in words[1:]))


def read_tie(words):
    if len(words) != 2 or not is_name(words[0]) or not is_name(words[1]):
        raise NoRow("a tie has two names")
    return (words[0], words[1])


def read_web(text):
    hands, ties = [], []
    for line in text.split("\n"):
        word, *rest = line.split(" ")
        if word == "hand" and not ties:
            hands.append(read_hand(rest))
        elif word == "tie":
            ties.append(read_tie(rest))
        else:
            raise NoRow("a web is written by hands, then by ties")
    return (hands, ties)


def web_told(text):
    try:
        return read_web(text)
    except NoText:
        raise NoRow("a number of a hand is not so written") from None


def deed_told(row):
    try:
        return read_deed(row)
    except NoText:
        raise NoRow("this is none of the desk's rows") from None


def asked(run, question, names):
    try:
        return question(run, *names)
    except NoDeed:
        raise NoRow("no such hand is there, or no such tie") from None


def done_text(row):
    deed, what = row
    if deed[0] == "turn":
        return "\n".join(letter_text(letter) for letter in what)
    return coming_text(what) if deed[0] == "come" else "ok"


class Desk:
    """A desk; run and web are None till it is told a web."""

    def __init__(self):
        self.web = None
        self.run = None

    def say(self, row):
        if not isinstance(row, str):
            raise NoRow("this is no text")
        word, feed, text = row.partition("\n")
        if word == "web" and feed:
            return self.begin(text)
        if self.run is None:
            raise NoRow("there is no run yet")
        if word == "judge" and feed:
            return self.judged(text)
        word, *names = row.split(" ")
        key = (word, len(names))
        if key in QUESTIONS:
            question = QUESTIONS[key]
            return asked(self.run, question, names)
        return done_text(self.run.do(deed_told(row)))

    def begin(self, text):
        web = web_told(text)
        self.run = Run(web)
        self.web = web
        return "ok"

    def judged(self, text):
        at = judge(self.web, read_book(text))
        return "right" if at is None else number_text(at)

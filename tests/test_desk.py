import random
import unittest

from sumtold.desk import Desk
from sumtold.errors import BadWeb, NoDeed, NoRow, NoText, SumError
from sumtold.judge import judge
from sumtold.run import Run
from sumtold.texts import book_text, read_book
from tests.odd import odd_things
from tests.test_judge import BOOK, DEEDS, PAIR
from tests.worlds import ALL_KINDS, random_deed, random_web, run_without_an_answer

WEB = "web\nhand a 5\nhand b 7\ntie a b"
OF_ALL = ("names", "way", "astray", "whole", "book")
OF_ONE = ("up", "held", "answer", "sum", "sure", "roll")
OF_TWO = ("stamp", "account")


def web_row(web):
    hands, ties = web
    rows = [" ".join(["hand", name] + [str(number) for number in numbers]) for name, numbers in hands]
    return "\n".join(["web"] + rows + [f"tie {one} {other}" for one, other in ties])


def deed_row(deed):
    words = []
    for thing in deed:
        words += list(thing) if isinstance(thing, tuple) else [thing]
    return " ".join(str(word) for word in words)


def row_text(row):
    return ",".join(f"{num}>>{e}" for num, e in row)


def stamp_text(stamp):
    return "-" if stamp is None else f"{stamp[0]}.{stamp[1]}"


def roll_text(roll):
    words = []
    for name, life, version, numbers, names in roll:
        words.append(f"{name}={life}.{version}={','.join(map(str, numbers))}={','.join(names) or '-'}")
    return " ".join(words)


def letter_text(letter):
    sender, to, stamp, seen, gifts, given, roll = letter
    return f"{sender} {to} {stamp_text(stamp)} {stamp_text(seen)} {gifts} {row_text(given)} {roll_text(roll)}"


def told_of_one(run, name):
    answer, sums, sure = run.answer(name), run.sum_of(name), run.sure(name)
    return {
        "up": "yes" if run.is_up(name) else "no",
        "held": row_text(run.held(name)),
        "answer": "none" if answer is None else " ".join(f"{num}/{den}" for num, den in answer),
        "sum": "none" if sums is None else " ".join(str(number) for number in sums),
        "sure": "none" if sure is None else " ".join([str(sure[0])] + [f"{most}@{haver}" for most, haver in sure[1]]),
        "roll": roll_text(run.roll(name)),
    }


def all_told(run):
    """All questions, and what is to be answered."""
    told = {"names": " ".join(run.names()) or "-", "way": row_text(run.on_way()), "astray": row_text(run.astray())}
    told.update({"whole": row_text(run.whole()), "book": book_text(run.book())})
    for name in run.names():
        told.update({f"{word} {name}": text for word, text in told_of_one(run, name).items()})
        for other in run.others(name):
            seen, gifts, given, takes, taken = run.account(name, other)
            told[f"stamp {name} {other}"] = stamp_text(run.stamp(name, other))
            told[f"account {name} {other}"] = f"{stamp_text(seen)} {gifts} {row_text(given)} {takes} {row_text(taken)}"
    return told


def done_text(deed, what):
    if deed[0] == "turn":
        return "\n".join(letter_text(letter) for letter in what)
    return (what or "nothing") if deed[0] == "come" else "ok"


class DeskTest(unittest.TestCase):
    def setUp(self):
        self.desk = Desk()

    def tell(self, *rows):
        return [self.desk.say(row) for row in rows]

    def state(self, desk):
        """All that the desk tells."""
        rows = list(OF_ALL)
        names = [] if desk.say("names") == "-" else desk.say("names").split(" ")
        told = [desk.say(row) for row in rows] + [desk.say(f"{word} {name}") for word in OF_ONE for name in names]
        for one in names:
            for other in names:
                for word in OF_TWO:
                    try:
                        told.append(desk.say(f"{word} {one} {other}"))
                    except NoRow:
                        told.append(None)
        return told + [desk.say("judge\n" + desk.say("book"))]

    def refused(self, refusal, *rows):
        before = self.state(self.desk)
        for row in rows:
            with self.assertRaises(SumError) as caught:
                self.desk.say(row)
            self.assertIs(type(caught.exception), refusal)
        self.assertEqual(self.state(self.desk), before)


class RowsTest(DeskTest):
    def test_one_by_one(self):
        for row, text in [
            (WEB, "ok"), ("names", "a b"), ("up a", "yes"), ("held a", "5>>0,1>>0"), ("answer a", "5/1"), ("sum a", "none"),
            ("sure a", "none"), ("roll a", "a=1.1=5=b"), ("stamp a b", "1.0"), ("account a b", "- 0 0>>0,0>>0 0 0>>0,0>>0"),
            ("way", "0>>0,0>>0"), ("astray", "0>>0,0>>0"), ("whole", "12>>0,2>>0"), ("book", ""),
            ("turn a", "a b 1.0 - 0 0>>0,0>>0 a=1.1=5=b"), ("come 0", "heard"),
            ("turn b", "b a 1.0 1.0 1 7>>1,1>>1 a=1.1=5=b b=1.1=7=a"), ("astray", "7>>1,1>>1"), ("come 1", "taken"),
            ("come 1", "heard"), ("held a", "17>>1,3>>1"), ("answer a", "17/3"), ("sum a", "11"), ("sure a", "2 7@b"),
            ("roll a", "a=1.1=5=b b=1.1=7=a"), ("account a b", "1.0 0 0>>0,0>>0 1 7>>1,1>>1"), ("stamp b a", "1.0"),
            ("turn a", "a b 1.0 1.0 1 17>>2,3>>2 a=1.1=5=b b=1.1=7=a"), ("way", "17>>2,3>>2"),
            ("fall b", "ok"), ("up b", "no"), ("come 2", "nothing"), ("back b", "ok"), ("up b", "yes"), ("come 2", "taken"),
            ("set b -8", "ok"), ("whole", "-3>>0,2>>0"), ("join c 1", "ok"), ("tie c a", "ok"), ("names", "a b c"),
            ("cut b a", "ok"), ("fresh a", "ok"), ("stamp a c", "2.0"), ("turn b", ""), ("leave b", "ok"), ("names", "a c"),
            ("judge\n", "right"), ("judge\nfall a", "right"), ("judge\nback a", "0"), ("judge\nfall a\nfall a", "1"),
        ]:
            self.assertEqual(self.desk.say(row), text, row)

    def test_the_book(self):
        self.tell(WEB)
        for deed, what in BOOK:
            self.assertEqual(self.desk.say(deed_row(deed)), done_text(deed, what))
        self.assertEqual(self.desk.say("book"), book_text(BOOK))
        self.assertEqual(read_book(self.desk.say("book")), BOOK)

    def test_as_a_run_tells(self):
        none = {"answer": 0, "sum": 0, "sure": 0}
        for seed in range(40):
            rng = random.Random(f"desk {seed}")
            web = random_web(rng)
            run, desk = Run(web), Desk()
            self.assertEqual(desk.say(web_row(web)), "ok")
            for at in range(40):
                deed = random_deed(rng, run, ALL_KINDS, run.size)
                if deed is None:
                    break
                self.assertEqual(desk.say(deed_row(deed)), done_text(*run.do(deed)))
                if at % 8 == 0:
                    told = all_told(run)
                    self.assertEqual({row: desk.say(row) for row in told}, told)
                    for word in none:
                        none[word] += any(told[row] == "none" for row in told if row.startswith(word + " "))
            self.assertEqual(desk.say("judge\n" + desk.say("book")), "right")
        self.assertGreater(none["sum"], 10)

    def test_when_all_left(self):
        self.tell("web\nhand a 5 6", "leave a")
        self.assertEqual(self.tell("names", "way", "astray", "whole"), ["-"] + ["0>>0,0>>0,0>>0"] * 3)
        self.assertEqual(self.tell("book"), ["leave a"])
        self.assertEqual(self.tell("join b 1 2", "names"), ["ok", "b"])

    def test_no_answer(self):
        run = run_without_an_answer()
        self.tell("web\nhand a 1\nhand b 2\nhand c 3\ntie a b\ntie c a")
        self.tell(*[deed_row(deed) for deed, _ in run.book()])
        self.assertEqual(self.tell("answer a", "sum a", "sure a"), ["none", "none", "3 3@c"])

    def test_a_turn_without_letters(self):
        self.assertEqual(self.tell("web\nhand a 5", "turn a", "turn a", "book"), ["ok", "", "", "turn a\nturn a"])

    def test_three_numbers(self):
        self.tell("web\nhand b -1 0 1000000000000\nhand a 1 0 -1000000000000\ntie b a")
        self.assertEqual(self.tell("whole"), ["0>>0,0>>0,0>>0,2>>0"])
        self.assertEqual(self.tell("answer b"), ["-1/1 0/1 1000000000000/1"])
        self.tell("turn a", "come 0")
        self.assertEqual(self.tell("sure b"), ["2 1@a 0@a 1000000000000@b"])
        self.assertEqual(self.tell("sum b"), ["-2 0 2000000000000"])

    def test_very_great_numbers(self):
        run = Run(PAIR)
        self.tell(WEB, "turn a", "come 0", "turn b", "come 1")
        for deed in (("turn", "a"), ("come", 0), ("turn", "b"), ("come", 1)) + (("turn", "a"),) * 15000:
            run.do(deed)
        # Each turn of an open tie halves what is held; its letters are lost.
        self.desk.run = run
        shown = self.desk.say("held a")
        num, e = shown.split(",")[1].split(">>")
        self.assertEqual((num, e), ("3", "15001"))
        given = self.desk.say("account a b").split(" ")[2].split(",")[1].split(">>")
        self.assertEqual(len(given[0]), len(given[0].lstrip("0")))
        self.assertGreater(len(given[0]), 4300)
        digits, rest = run.account("a", "b")[2][1][0], int(given[0][-50:])
        self.assertEqual(digits % 10 ** 50, rest)


class WebTest(DeskTest):
    def test_a_web_told_anew(self):
        self.tell(WEB, "turn a", "fall b")
        self.assertEqual(self.tell("web\nhand x 1\nhand a 2", "names", "book", "whole"), ["ok", "a x", "", "3>>0,2>>0"])
        self.refused(NoRow, "up b", "stamp a b")
        self.refused(NoDeed, "come 0", "turn b")
        self.assertEqual(self.tell("judge\nturn x", "judge\nturn b"), ["right", "0"])
        self.assertEqual(self.tell(WEB, "up b", "book"), ["ok", "yes", ""])

    def test_two_desks(self):
        other = Desk()
        self.tell(WEB, "turn a")
        with self.assertRaises(NoRow):
            other.say("names")
        other.say("web\nhand z 1")
        self.assertEqual(self.tell("names", "book"), ["a b", "turn a ; a b 1.0 - 0 0>>0,0>>0 a=1.1=5=b"])
        self.assertEqual((other.say("names"), other.say("book")), ("z", ""))
        self.tell("come 0")
        other.say(WEB)
        with self.assertRaises(NoDeed):
            other.say("come 0")

    def test_orders(self):
        self.tell("web\nhand b 7\nhand a 5\ntie b a")
        for deed in DEEDS:
            self.desk.say(deed_row(deed))
        self.assertEqual(self.desk.say("book"), book_text(BOOK))

    def test_not_so_written(self):
        self.tell(WEB, "turn a")
        self.refused(
            NoRow, "web", "web\n", "web\n\n", "web ", "web \nhand a 5", " web\nhand a 5", "Web\nhand a 5", "web hand a 5",
            "web\n hand a 5", "web\nhand a 5 ", "web\nhand a 5\n", "web\n\nhand a 5", "web\nhand a  5", "web\nhand  a 5",
            "web\nhand a 5\n\nhand b 7", "web\nhand a", "web\nhand", "web\nhand 5", "web\nhand A 5", "web\nhand abcdefghi 5",
            "web\nhand a 05", "web\nhand a -0", "web\nhand a +5", "web\nhand a 5.0", "web\nhand a b", "web\nhand a 5 b",
            "web\nhand a,5", "web\nhand a 5,6", "web\nhand a " + "1" * 1001, "web\nhand a 5\rhand b 6", "web\r\nhand a 5",
            "web\nhand a 5\nhand b 7\ntie a", "web\nhand a 5\nhand b 7\ntie", "web\nhand a 5\nhand b 7\ntie a b c",
            "web\nhand a 5\nhand b 7\ntie a B", "web\nhand a 5\nhand b 7\ntie A b", "web\nhand a 5\nhand b 7\ntie a 7", "web\nhand a 5\nhand b 7\ntie a  b",
            "web\nhand a 5\ncut a b", "web\nturn a", "web\nhand a 5\nweb\nhand a 5", "web\nhands a 5", "web\nHand a 5",
            "web\ntie a b\nhand a 5\nhand b 7", "web\nhand a 5\ntie a b\nhand b 7", "web\nhand a \uff15", "web\nhand \u00e9 5",
        )

    def test_no_web(self):
        self.tell(WEB, "turn a")
        self.refused(
            BadWeb, "web\ntie a b", "web\nhand a 5\nhand a 6", "web\nhand a 5\nhand b 6 7", "web\nhand a 1 2 3 4",
            "web\nhand a 1000000000001", "web\nhand a -1000000000001", "web\nhand a " + "1" * 1000, "web\nhand a 1 -" + "9" * 1000,
            "web\nhand a 5\ntie a a", "web\nhand a 5\ntie a b", "web\nhand a 5\nhand b 7\ntie a b\ntie a b",
            "web\nhand a 5\nhand b 7\ntie a b\ntie b a", "web\n" + "\n".join(f"hand {name} 1" for name in "abcdefghi"),
            "web\nhand a" + " 1" * 5000, "web\ntie a a",
        )

    def test_no_web_not_so_written(self):
        self.tell(WEB)
        for wrong in ("web\ntie a b\n", "web\nhand a 5\nhand a 6\nhand b", "web\nhand a 1000000000001\nx", "web\ntie a b\nhand a 05"):
            self.refused(NoRow, wrong)

    def test_a_web_refused_ahead_of_any_web(self):
        for wrong, refusal in (("web\ntie a b", BadWeb), ("web\n", NoRow), ("web", NoRow), ("web\nhand a 5\nhand a 5", BadWeb)):
            with self.assertRaises(refusal):
                self.desk.say(wrong)
            with self.assertRaises(NoRow):
                self.desk.say("names")
        self.assertEqual(self.tell(WEB, "names"), ["ok", "a b"])

    def test_edges(self):
        self.assertEqual(self.tell("web\nhand a -1000000000000 0 1000000000000", "names"), ["ok", "a"])
        self.assertEqual(self.tell("web\n" + "\n".join(f"hand {name} 1" for name in "hgfedcba"), "names"), ["ok", "a b c d e f g h"])
        self.refused(NoDeed, "join i 1")


class JudgeTest(DeskTest):
    def test_right_and_wrong(self):
        self.tell(WEB)
        text = book_text(BOOK)
        self.assertEqual(self.tell("judge\n" + text, "judge\n"), ["right", "right"])
        rows = text.split("\n")
        for at in range(len(rows)):
            book = rows[:at] + rows[at + 1:]
            told = judge(PAIR, BOOK[:at] + BOOK[at + 1:])
            self.assertEqual(self.desk.say("judge\n" + "\n".join(book)), "right" if told is None else str(told))
        self.assertEqual(self.tell("judge\nturn a", "judge\nturn c", "judge\ncome 0 : heard"), ["0", "0", "0"])
        self.assertEqual(self.tell("judge\n" + "\n".join(rows[:13] + rows[14:])), ["13"])

    def test_by_the_web_that_was_told(self):
        self.tell(WEB, "set a 6", "leave b")
        self.assertEqual(self.tell("judge\n" + book_text(BOOK)), ["right"])
        self.assertEqual(self.tell("judge\nset a 6\nleave b", "judge\nleave b\nset b 6"), ["right", "1"])

    def test_nothing_is_done(self):
        self.tell(WEB, "turn a")
        before = self.state(self.desk)
        self.tell("judge\n" + book_text(BOOK), "judge\nturn b", "judge\nleave a")
        self.assertEqual(self.state(self.desk), before)

    def test_no_text(self):
        self.tell(WEB, "turn a")
        self.refused(NoText, "judge\n\n", "judge\nx", "judge\nturn a\n", "judge\n turn a", "judge\nturn", "judge\nright", "judge\njudge\n")
        self.refused(NoText, "judge\ncome 0", "judge\ncome " + "1" * 1001 + " : heard", "judge\n" + "(" * 5000, "judge\ntie a a")
        self.refused(NoText, "judge\nleave a\nleave a\nx", "judge\n" + WEB)
        self.refused(NoRow, "judge", "judge ", "judge turn a", " judge\n", "Judge\n", "judge \nturn a", "\njudge\n", "judge\r\n")


class RefusedTest(DeskTest):
    QUESTIONS = list(OF_ALL) + [word + " a" for word in OF_ONE] + [word + " a b" for word in OF_TWO]

    def test_ahead_of_any_web(self):
        rows = self.QUESTIONS + [deed_row(deed) for deed in DEEDS] + ["", "x", "judge", "judge\n", "judge\nx", "judge\nturn a", "web"]
        for row in rows + odd_things():
            with self.assertRaises(NoRow):
                self.desk.say(row)

    def test_what_is_no_text(self):
        self.tell(WEB)
        self.refused(NoRow, *[thing for thing in odd_things() if not isinstance(thing, str)], [WEB], b"names", ("turn", "a"))

    def test_what_is_no_row(self):
        self.tell(WEB, "turn a")
        self.refused(NoRow, *[thing for thing in odd_things() if isinstance(thing, str)])
        self.refused(NoRow, "", " ", "\n", "ok", "Names", "hand a 5", "right", "names\n", "names ", " names", "names a", "nam\u00e9s")
        for row in self.QUESTIONS:
            self.refused(NoRow, row + " ", " " + row, row + "\n", row + " a b c", row.upper(), row.replace(" ", "  ") + " ", row + ":")
        for word in OF_ONE:
            self.refused(NoRow, word, word + " ", word + " a b", word + "  a", word + " a,b", word + "\na", word + "a")
        for word in OF_TWO:
            self.refused(NoRow, word, word + " a", word + " a b c", word + " a  b", word + " a,b", word + " a b ")

    def test_names_that_are_not_there(self):
        self.tell("web\nhand a 1\nhand b 2\nhand c 3\ntie a b\ntie b c", "join d 4", "leave d", "cut c b")
        for word in OF_ONE:
            self.refused(NoRow, *[f"{word} {name}" for name in ("x", "d", "A", "abcdefghi", "-", "1", "")])
        for word in OF_TWO:
            self.refused(NoRow, *[f"{word} {names}" for names in ("a c", "c a", "b c", "c b", "a a", "a d", "d a", "x a", "a x", "A b")])
            self.desk.say(word + " b a")

    def test_deeds_that_are_none(self):
        self.tell(WEB, "turn a")
        self.refused(
            NoRow, "turn", "turn A", "turn a b", "turn abcdefghi", "turn 1", "come", "come a", "come -1", "come 00", "come +1",
            "come 0 0", "come " + "1" * 1001, "come 0 : heard", "fall", "back a b", "fresh", "leave a,b", "set a", "set a b",
            "set a 1000000000001", "set a 1 2 3 4", "set a 01", "set a -0", "set 1", "join c", "join c x", "join c -1000000000001",
            "tie a a", "cut b b", "tie a", "cut a b c", "tie a B", "turn a ; a b 1.0 - 0 0>>0,0>>0 a=1.1=5=b", "turn  a",
            "turn a ", " turn a", "turn a\n", "turn a\nturn b", "TURN a", "turned a", "set a 1,2", "come 0\n", "tie x x", "turn -",
        )

    def test_deeds_that_can_not_be_done(self):
        self.tell(WEB, "turn a", "fall b")
        self.refused(
            NoDeed, "turn c", "turn b", "come 1", "come " + "1" * 1000, "fall b", "fall c", "back a", "back c", "fresh c", "leave c",
            "set a 1 2", "set c 1", "join a 1", "join b 1", "join c 1 2", "tie a b", "tie b a", "tie a c", "cut a c", "cut c d",
        )

    def test_bent_rows(self):
        """Whatever row is told: it is answered by a text, or refused, and then nothing is changed."""
        rows = self.QUESTIONS + [deed_row(deed) for deed in DEEDS] + ["judge\n" + book_text(BOOK[:3]), WEB] * 4
        refusals = {BadWeb: 0, NoDeed: 0, NoText: 0, NoRow: 0}
        self.tell(WEB)
        for seed in range(4000):
            rng = random.Random(f"bent rows {seed}")
            row = rng.choice(rows)
            at = rng.randrange(len(row) + 1)
            row = row[:at] + rng.choice(("", " ", "\n", "a", "b", "c", "1", "0", "-", ":", "A")) + row[at + rng.randrange(2):]
            before = self.state(self.desk)
            try:
                self.assertIsInstance(self.desk.say(row), str)
            except SumError as refusal:
                refusals[type(refusal)] += 1
                self.assertEqual(self.state(self.desk), before)
            if len(self.desk.say("book")) > 3000:
                self.tell(WEB)
        self.assertGreater(min(refusals.values()), 10, refusals)

    def test_no_refusal_stands_under_another(self):
        kinds = (BadWeb, NoDeed, NoText, NoRow)
        for one in kinds:
            self.assertEqual(one.__bases__, (SumError,))

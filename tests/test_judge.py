import copy
import random
import unittest

from sumtold.errors import BadWeb, NoDeed
from sumtold.judge import judge
from sumtold.run import Run
from tests.odd import odd_things
from tests.test_books import got, paths, put
from tests.worlds import ALL_KINDS, random_deed, random_web

PAIR = ([("a", (5,)), ("b", (7,))], [("a", "b")])
# All ten deeds, comings with all three words, letters with and without a seen, rolls of one and more entries.
DEEDS = [
    ("turn", "a"), ("come", 0), ("turn", "b"), ("come", 1), ("come", 1), ("join", "c", (9,)), ("tie", "c", "a"),
    ("turn", "a"), ("come", 2), ("come", 3), ("turn", "c"), ("come", 4), ("turn", "a"), ("fall", "b"), ("come", 5),
    ("back", "b"), ("come", 5), ("set", "b", (-8,)), ("fresh", "c"), ("come", 6), ("turn", "c"), ("come", 7),
    ("cut", "c", "a"), ("come", 4), ("leave", "a"), ("come", 5), ("turn", "b"), ("turn", "c"), ("turn", "b"),
]


def book_of(web, deeds):
    run = Run(web)
    for deed in deeds:
        run.do(deed)
    return run.book()


BOOK = book_of(PAIR, DEEDS)


def slow_judge(web, book):
    """The first wrong row, held against the rows of a run as they are shown, in which True isn't 1."""
    run = Run(web)
    for at, row in enumerate(book):
        if type(row) is not tuple or len(row) != 2:
            return at
        try:
            told = run.do(row[0])
        except NoDeed:
            return at
        if repr(told) != repr(row):
            return at
    return None


def random_book(rng, many):
    web = random_web(rng)
    run = Run(web)
    for _ in range(many):
        deed = random_deed(rng, run, ALL_KINDS, run.size)
        if deed is not None:
            run.do(deed)
    return web, run.book()


def otherwise(old):
    """Things near to an old one that aren't it."""
    if isinstance(old, tuple):
        near = [list(old), old + old[-1:], old + (0,), old[:-1], old[1:], old[::-1], (old,), set(), dict(enumerate(old))]
    elif isinstance(old, str):
        near = [old + "a", old[:-1], old.upper(), old.encode(), (old,), [old], "a", "b", "taken", "heard", ""]
    elif old is None:
        near = [0, (), (0, 0), (1, 0), False, "None"]
    else:
        near = [old + 1, old - 1, -old, str(old), (old,), [old], old + 10 ** 30]
        if old in (0, 1):
            near.append(bool(old))
    return near + [None, True, False, 0, 1, (), [], "", {}]


class RightTest(unittest.TestCase):
    def test_the_book_of_all_deeds(self):
        self.assertEqual({deed[0] for deed in DEEDS}, set(ALL_KINDS))
        self.assertEqual({what for deed, what in BOOK if deed[0] == "come"}, {"taken", "heard", ""})
        for many in range(len(BOOK) + 1):
            self.assertIsNone(judge(PAIR, BOOK[:many]))

    def test_the_book_of_no_rows(self):
        self.assertIsNone(judge(PAIR, []))

    def test_books_of_runs(self):
        for seed in range(60):
            rng = random.Random(f"judge {seed}")
            web, book = random_book(rng, 50)
            for many in (len(book), rng.randint(0, len(book))):
                self.assertIsNone(judge(web, book[:many]))

    def test_another_order_of_the_web(self):
        for seed in range(40):
            rng = random.Random(f"judge order {seed}")
            (hands, ties), book = random_book(rng, 40)
            web = (rng.sample(hands, len(hands)), [rng.choice((tie, tie[::-1])) for tie in rng.sample(ties, len(ties))])
            self.assertIsNone(judge(web, book))

    def test_a_book_written_by_others(self):
        # Not the tuples of a run, but ones like them.
        self.assertIsNone(judge(PAIR, eval(repr(BOOK))))

    def test_what_is_handed_in_stays(self):
        web, book = copy.deepcopy((PAIR, BOOK))
        for _ in range(2):
            self.assertIsNone(judge(web, book))
        book.append(book[0])
        for _ in range(2):
            self.assertEqual(judge(web, book), len(BOOK))
        self.assertEqual((web, book), (PAIR, BOOK + [BOOK[0]]))


class WrongTest(unittest.TestCase):
    def test_rows_left_out(self):
        for at in range(len(BOOK) - 1):
            book = BOOK[:at] + BOOK[at + 1:]
            self.assertEqual(judge(PAIR, book), slow_judge(PAIR, book))
        # Without a's first turn no letter 0 is written; without its coming b has not seen a.
        self.assertEqual(judge(PAIR, BOOK[1:]), 0)
        self.assertEqual(judge(PAIR, BOOK[:1] + BOOK[2:]), 1)
        self.assertEqual(judge(PAIR, BOOK[:5] + BOOK[6:]), 5)

    def test_rows_told_twice(self):
        for at in range(len(BOOK)):
            book = BOOK[:at + 1] + BOOK[at:]
            self.assertEqual(judge(PAIR, book), slow_judge(PAIR, book))
        self.assertEqual(judge(PAIR, BOOK[:6] + BOOK[5:]), 6)
        self.assertEqual(judge(PAIR, BOOK[:14] + BOOK[13:]), 14)
        self.assertEqual(judge(PAIR, BOOK[:4] + BOOK[3:]), 4)

    def test_rows_exchanged(self):
        for at in range(len(BOOK)):
            for other in range(at):
                book = list(BOOK)
                book[at], book[other] = book[other], book[at]
                self.assertEqual(judge(PAIR, book), slow_judge(PAIR, book))
        self.assertEqual(judge(PAIR, [BOOK[1], BOOK[0]] + BOOK[2:]), 0)

    def test_rows_put_elsewhere(self):
        for at in range(len(BOOK)):
            for to in range(len(BOOK)):
                book = BOOK[:at] + BOOK[at + 1:]
                book.insert(to, BOOK[at])
                self.assertEqual(judge(PAIR, book), slow_judge(PAIR, book))

    def test_another_web(self):
        for web in (
            ([("a", (6,)), ("b", (7,))], [("a", "b")]), ([("a", (5,)), ("b", (7,))], []), ([("a", (5,))], []),
            ([("a", (5, 5)), ("b", (7, 5))], [("a", "b")]), ([("a", (5,)), ("d", (7,))], [("a", "d")]),
        ):
            self.assertEqual(judge(web, BOOK), 0)
        self.assertEqual(judge(([("a", (5,)), ("b", (8,))], [("a", "b")]), BOOK), 2)

    def test_random_books_bent(self):
        wrong = 0
        for seed in range(120):
            rng = random.Random(f"bent {seed}")
            web, book = random_book(rng, 30)
            if book:
                at = rng.randrange(len(book))
                path = rng.choice(list(paths(book[at])))
                book[at] = put(book[at], path, rng.choice(otherwise(got(book[at], path))))
                told = judge(web, book)
                self.assertEqual(told, slow_judge(web, book))
                wrong += told is not None
        self.assertGreater(wrong, 80)


class OneThingOtherwiseTest(unittest.TestCase):
    def test_at_each_place(self):
        # A deed may be another right one, whose row is the same; all else is wrong in this very row.
        for at, row in enumerate(BOOK):
            for path in paths(row):
                for thing in otherwise(got(row, path)):
                    bent = put(row, path, thing)
                    if repr(bent) != repr(row):
                        book = BOOK[:at] + [bent]
                        told = judge(PAIR, book)
                        self.assertEqual(told, slow_judge(PAIR, book), bent)
                        if not path or path[0] == 1:
                            self.assertEqual(told, at, bent)

    def test_truths_for_numbers(self):
        many = 0
        for at, row in enumerate(BOOK):
            for path in paths(row):
                old = got(row, path)
                if type(old) is int and old in (0, 1):
                    many += 1
                    self.assertEqual(judge(PAIR, BOOK[:at] + [put(row, path, bool(old))]), at)
        self.assertGreater(many, 50)

    def test_lists_for_tuples(self):
        for at, row in enumerate(BOOK):
            for path in paths(row):
                old = got(row, path)
                if isinstance(old, tuple):
                    self.assertEqual(judge(PAIR, BOOK[:at] + [put(row, path, list(old))]), at)

    def may_stand(self, path, thing, old):
        """Whether an odd thing is right there: what was there, no letters, or another number of one who joins."""
        if isinstance(thing, tuple):
            return len(thing) == 0 and old == ()
        if isinstance(thing, (str, int)) and not isinstance(thing, bool):
            return repr(thing) == repr(old) or path == (0, 2, 0) and thing in (7, -1)
        return thing is None and old is None

    def test_odd_things_at_each_place(self):
        things = odd_things()
        for at in (0, 1, 2, 5, 6, 10, 13):
            row = BOOK[at]
            for path in paths(row):
                old = got(row, path)
                for thing in things:
                    if self.may_stand(path, thing, old):
                        continue
                    self.assertEqual(judge(PAIR, BOOK[:at] + [put(row, path, thing)]), at)

    def test_letters_less_twice_exchanged(self):
        at, (deed, letters) = 7, BOOK[7]
        self.assertEqual(len(letters), 2)
        for what in (letters[:1], letters[1:], (), letters + letters[:1], letters[::-1], (letters[0],) * 2, letters + ((),)):
            self.assertEqual(judge(PAIR, BOOK[:at] + [(deed, what)] + BOOK[at + 1:]), at)

    def test_another_word_of_a_coming(self):
        for at, (deed, what) in enumerate(BOOK):
            if deed[0] == "come":
                for word in ("taken", "heard", "", "nothing", None, (), "Taken"):
                    if word != what:
                        self.assertEqual(judge(PAIR, BOOK[:at] + [(deed, word)]), at)

    def test_deeds_that_are_none_or_can_not_be_done(self):
        for deed in (("turn", "d"), ("come", 6), ("back", "b"), ("fall", "c"), ("tie", "a", "b"), ("cut", "c", "b"),
                     ("join", "b", (1,)), ("join", "d", (1, 2)), ("set", "a", (1, 2)), ("leave", "d"), ("fresh", "d"),
                     ("turn",), ("walk", "a"), (), None, ["turn", "a"], ("come", -1), ("come", False)):
            for what in ((), "", "heard", BOOK[-1][1]):
                self.assertEqual(judge(PAIR, BOOK[:5] + [(deed, what)]), 5)
        # A deed that is told, though not in this order.
        self.assertEqual(judge(PAIR, [(("join", "a", (5,)), ())]), 0)


class AnythingTest(unittest.TestCase):
    def test_no_list(self):
        for thing in odd_things() + [tuple(BOOK), dict(enumerate(BOOK)), iter(BOOK), "turn a"]:
            if not isinstance(thing, list):
                self.assertEqual(judge(PAIR, thing), 0)

    def test_anything_for_a_row(self):
        for thing in odd_things():
            for at in (0, 1, 4):
                self.assertEqual(judge(PAIR, BOOK[:at] + [thing]), at)
                for row in ((thing,), (thing, ()), (thing, thing), (("turn", "b"), thing, ()), [("fall", "b"), ()]):
                    self.assertEqual(judge(PAIR, BOOK[:at] + [row]), at)
                self.assertEqual(judge(PAIR, BOOK[:at] + [(("turn", "b"), thing)]), at)

    def test_what_stands_behind_the_first_wrong_row_is_not_looked_at(self):
        for at in (0, 3, len(BOOK)):
            for thing in odd_things():
                self.assertEqual(judge(PAIR, BOOK[:at] + [None, thing, thing]), at)
                self.assertEqual(judge(PAIR, BOOK[:at] + [(("walk", "a"), ()), thing]), at)

    def test_a_book_in_itself(self):
        book = list(BOOK)
        book.append(book)
        book.append((("turn", "b"), book))
        self.assertEqual(judge(PAIR, book), len(BOOK))

    def test_webs_ahead_of_all(self):
        for web in odd_things() + [([], []), ([("a", (1,))], [("a", "b")]), list(PAIR)]:
            for book in ([], BOOK, None, 7, [None], ()):
                with self.assertRaises(BadWeb):
                    judge(web, book)

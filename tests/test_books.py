import random
import unittest

from sumtold.errors import BadBooks
from sumtold.hand import Hand, hand_of
from sumtold.run import Run
from tests.odd import odd_things
from tests.worlds import ALL_KINDS, random_deed, random_web
from tests.test_hand import state

ROW = ((5, 1), (0, 0), (1, 1))
NOUGHT = ((0, 0), (0, 0), (0, 0))
ERAS = (("b", 0), ("c", 2), ("x", 1))
ACCOUNTS = (("b", None, 0, NOUGHT, 0, NOUGHT), ("c", (3, 0), 4, ROW, 5, NOUGHT))
ROLL = (
    ("b", 1, 1, (7, 8), ("m",)),
    ("m", 2, 6, (5, -6), ("b", "c")),
    ("zz", 9, 3, (0, 0), ()),
)
BOOKS = ("m", 2, 6, (5, -6), ERAS, ACCOUNTS, ROLL)


def put(thing, path, new):
    """The tuple with the thing at this path made new."""
    if not path:
        return new
    at = path[0]
    return thing[:at] + (put(thing[at], path[1:], new),) + thing[at + 1:]


def got(thing, path):
    for at in path:
        thing = thing[at]
    return thing


def paths(thing, path=()):
    yield path
    if isinstance(thing, tuple):
        for at, part in enumerate(thing):
            yield from paths(part, path + (at,))


class BooksTest(unittest.TestCase):
    def test_books_of_a_new_hand(self):
        nought = ((0, 0), (0, 0))
        self.assertEqual(Hand("a", (5,), ["c", "b"]).books(), (
            "a", 1, 1, (5,), (("b", 0), ("c", 0)),
            (("b", None, 0, nought, 0, nought), ("c", None, 0, nought, 0, nought)),
            (("a", 1, 1, (5,), ("b", "c")),),
        ))
        self.assertEqual(Hand("a", (5,), []).books(), ("a", 1, 1, (5,), (), (), (("a", 1, 1, (5,), ()),)))

    def test_books_tell_all(self):
        hand = hand_of(BOOKS)
        self.assertEqual(hand.books(), BOOKS)
        self.assertEqual(hand.numbers(), (5, -6))
        self.assertEqual(hand.others(), ["b", "c"])
        self.assertEqual((hand.stamp("b"), hand.stamp("c")), ((2, 0), (2, 2)))
        self.assertEqual(hand.account("c"), ((3, 0), 4, ROW, 5, NOUGHT))
        self.assertEqual(hand.held(), ((5, 1), (-6, 0), (1, 1)))
        self.assertEqual(hand.roll(), ROLL)
        self.assertEqual(hand.account("b"), (None, 0, NOUGHT, 0, NOUGHT))
        hand.tie("x")
        self.assertEqual(hand.stamp("x"), (2, 1))

    def test_books_stay_as_they_were_told(self):
        hand = hand_of(BOOKS)
        hand.turn()
        hand.set_own((1, 1))
        hand.cut("b")
        self.assertEqual(hand_of(BOOKS).books(), BOOKS)
        self.assertNotEqual(hand.books(), BOOKS)

    def test_books_are_not_refused_for_what_no_run_came_to(self):
        for path, new in [((5, 0, 1), (99, 99)), ((5, 0, 2), 10 ** 30), ((5, 0, 5), ROW), ((4, 0, 1), 10 ** 30),
                          ((6, 0, 4), ()), ((6, 2, 4), ("a", "b", "c", "qq")), ((6, 0, 1), 10 ** 30)]:
            books = put(BOOKS, path, new)
            self.assertEqual(hand_of(books).books(), books)
        elder = put(put(BOOKS, (1,), 1), (6, 1, 1), 1)
        self.assertEqual(hand_of(elder).books(), elder)


class GoesOnTest(unittest.TestCase):
    def test_a_hand_made_anew_goes_on(self):
        for seed in range(60):
            rng = random.Random(f"books {seed}")
            web = random_web(rng)
            size = len(web[0][0][1])
            run, other = Run(web), Run(web)
            for _ in range(60):
                deed = random_deed(rng, run, ALL_KINDS, size)
                if deed is None:
                    break
                self.assertEqual(run.do(deed), other.do(deed))
                for name in other.names():
                    if rng.random() < 0.2:
                        mine, books = run.hands[name], other.hands[name].books()
                        other.hands[name] = hand_of(books)
                        self.assertEqual(state(other.hands[name]), state(mine))
            self.assertEqual(run.book(), other.book())


class BadBooksTest(unittest.TestCase):
    def bad(self, books):
        # No message with what is handed in: it may be too deep to be shown.
        with self.assertRaises(BadBooks):
            hand_of(books)

    def bad_at(self, path, *things):
        for thing in things:
            self.bad(put(BOOKS, path, thing))

    def test_things_of_other_kinds(self):
        for thing in odd_things():
            self.bad(thing)
        self.bad(list(BOOKS))

    def test_things_of_other_kinds_at_each_place(self):
        let_by = []
        for path in paths(BOOKS):
            for at, thing in enumerate(odd_things()):
                try:
                    hand_of(put(BOOKS, path, thing))
                    let_by.append((path, at))
                except BadBooks:
                    pass
        things = odd_things()
        self.assertTrue(let_by)
        for path, at in let_by:
            self.assertTrue(self.may_stand(path, things[at]), (path, at))

    def may_stand(self, path, thing):
        """Whether an odd thing is a right one at this place: a count, an era, no stamp, no names, a whole part."""
        if thing is None:
            return len(path) == 3 and path[0] == 5 and path[2] == 1
        if isinstance(thing, tuple):
            return thing == () and path in ((6, 0, 4), (6, 2, 4))
        old = got(BOOKS, path)
        return type(thing) is int and type(old) is int

    def test_a_part_more_or_fewer(self):
        # What may lack: the entry of another hand, an era without a tie, a name in another hand's entry.
        may_lack = ((6, 0), (6, 2), (4, 2), (6, 0, 4, 0))
        for path in paths(BOOKS):
            old = got(BOOKS, path)
            if isinstance(old, tuple):
                self.bad_at(path, list(old), dict(enumerate(old)))
                self.bad_at(path, *[old + (more,) for more in (0, None, (), True, "A")])
                self.bad_at(path, *[
                    old[:at] + old[at + 1:] for at in range(len(old)) if path + (at,) not in may_lack
                ])

    def test_entries_and_eras_may_be_fewer(self):
        for path in ((6,), (4,)):
            old = got(BOOKS, path)
            books = put(BOOKS, path, old[:-1])
            self.assertEqual(hand_of(books).books(), books)

    def test_names(self):
        wrong = ("", "A", "a1", "abcdefghi", "a b", b"a", None, 1, ("a",), ["a"])
        for path in paths(BOOKS):
            if isinstance(got(BOOKS, path), str):
                self.bad_at(path, *wrong)
        # Each of these would do but for the name itself.
        self.bad(("A", 1, 1, (5,), (), (), (("A", 1, 1, (5,), ()),)))
        self.bad(("a", 1, 1, (5,), (), (), (("a", 1, 1, (5,), ()), ("b1", 1, 1, (5,), ()))))
        self.bad(("a", 1, 1, (5,), (("b1", 0),), (), (("a", 1, 1, (5,), ()),)))

    def test_the_own_name(self):
        nought = ((0, 0), (0, 0))
        account = ("a", None, 0, nought, 0, nought)
        self.bad(("a", 1, 1, (5,), (("a", 0),), (), (("a", 1, 1, (5,), ()),)))
        self.bad(("a", 1, 1, (5,), (("a", 0),), (account,), (("a", 1, 1, (5,), ()),)))
        self.bad(("a", 1, 1, (5,), (("a", 0),), (account,), (("a", 1, 1, (5,), ("a",)),)))
        self.bad_at((6, 0, 4), ("b",), ("b", "m"))
        self.bad_at((6, 2, 4), ("zz",), ("b", "zz"))

    def test_names_that_do_not_rise(self):
        for path in ((4,), (5,), (6,), (6, 1, 4)):
            old = got(BOOKS, path)
            self.bad_at(path, old[::-1], old[:1] + old, old + old[-1:])
        self.bad_at((6, 2, 4), ("b", "a"), ("b", "b"), ("a", "c", "b"), ("a", "b", "b"))

    def test_counts(self):
        for path in ((1,), (2,), (6, 0, 1), (6, 0, 2), (5, 1, 1, 0)):
            self.bad_at(path, 0, -1, True, False, "1", None, (1,))
        for path in ((4, 0, 1), (4, 1, 1), (5, 0, 2), (5, 0, 4), (5, 1, 2), (5, 1, 4), (5, 1, 1, 1)):
            self.bad_at(path, -1, -10 ** 30, True, False, "0", None, (0,), [0])

    def test_truths_for_numbers(self):
        for path in paths(BOOKS):
            old = got(BOOKS, path)
            if isinstance(old, int):
                self.bad_at(path, True, False)
        # The own entry would be found, as True is 1 to Python.
        self.bad(("a", True, 1, (5,), (), (), (("a", 1, 1, (5,), ()),)))
        self.bad(("a", 1, 1, (True,), (), (), (("a", 1, 1, (1,), ()),)))
        self.bad(("a", 1, 1, (1,), (), (), (("a", 1, True, (1,), ()),)))

    def test_numbers(self):
        def alone(numbers):
            return ("a", 1, 1, numbers, (), (), (("a", 1, 1, numbers, ()),))
        self.assertEqual(hand_of(alone((10 ** 12, -10 ** 12))).numbers(), (10 ** 12, -10 ** 12))
        for numbers in [(), (1, 2, 3, 4), (10 ** 12 + 1,), (-10 ** 12 - 1,), ("1",), [1], "1", (None,)]:
            self.bad(alone(numbers))
        self.bad_at((6, 0, 3), (7,), (7, 8, 9), (), (7, 10 ** 13), (7, None))
        self.bad_at((6, 2, 3), (0,), (0, 0, 0))

    def test_parts(self):
        for path in paths(BOOKS):
            if len(path) == 4 and path[0] == 5 and path[2] in (3, 5):
                self.bad_at(path, (2, 1), (0, 1), (4, 2), (1, -1), (1,), (1, 0, 0), [1, 0], 1, (1, True), ("1", 0))

    def test_rows(self):
        for path in ((5, 0, 3), (5, 0, 5), (5, 1, 3), (5, 1, 5)):
            self.bad_at(path, (), ROW[:2], ROW + ((0, 0),), list(ROW), None, 0)

    def test_seen(self):
        for path in ((5, 0, 1), (5, 1, 1)):
            self.bad_at(path, (), (1,), (1, 0, 0), (0, 0), (1, -1), [1, 0], (True, 0), (1, False), 1, "", False)

    def test_an_account_whose_name_is_not_among_the_eras(self):
        self.bad_at((4,), ERAS[1:], ERAS[:1], (), (("a", 0),) + ERAS[1:])

    def test_the_own_entry(self):
        self.bad_at((6,), (), ROLL[:1] + ROLL[2:], ROLL[:1])
        self.bad_at((1,), 1, 3)
        self.bad_at((2,), 5, 7)
        self.bad_at((3,), (5, -5), (-6, 5))
        self.bad_at((5,), (), ACCOUNTS[:1], ACCOUNTS[1:])
        self.bad_at((6, 1, 1), 1, 3)
        self.bad_at((6, 1, 2), 5, 7)
        self.bad_at((6, 1, 3), (5, 6), (-6, 5))
        self.bad_at((6, 1, 4), (), ("b",), ("c",), ("b", "c", "x"), ("b", "d"))
        self.bad_at((0,), "n", "b", "zz")

    def test_what_is_refused_stays(self):
        books = ["a", 1]
        self.bad(books)
        self.assertEqual(books, ["a", 1])

import copy
import random
import unittest

from sumtold.errors import NoText
from sumtold.texts import book_text, read_book
from tests.odd import odd_things
from tests.readings import slow_read
from tests.test_judge import BOOK, random_book

LETTER = ("a", "b", (1, 0), None, 0, ((0, 0), (0, 0)), (("a", 1, 1, (5,), ("b",)),))
LETTER_TEXT = "a b 1.0 - 0 0>>0,0>>0 a=1.1=5=b"
LONG_LETTER = (
    "kl", "abcdefgh", (3, 12), (10, 0), 7, ((-3, 2), (17, 0), (0, 0), (1, 40)),
    (("b", 1, 1, (-5, 0, 10 ** 12), ()), ("c", 2, 33, (1,), ("b", "c", "x"))),
)
LONG_LETTER_TEXT = "kl abcdefgh 3.12 10.0 7 -3>>2,17>>0,0>>0,1>>40 b=1.1=-5,0,1000000000000=- c=2.33=1=b,c,x"
ROWS = [
    ((("turn", "a"), ()), "turn a"),
    ((("turn", "a"), (LETTER,)), "turn a ; " + LETTER_TEXT),
    ((("turn", "zz"), (LONG_LETTER, LETTER, LETTER)),
     "turn zz ; " + LONG_LETTER_TEXT + " ; " + LETTER_TEXT + " ; " + LETTER_TEXT),
    ((("come", 0), "taken"), "come 0 : taken"),
    ((("come", 5), "heard"), "come 5 : heard"),
    ((("come", 10 ** 30), ""), "come 1" + "0" * 30 + " : nothing"),
    ((("fall", "a"), ()), "fall a"),
    ((("back", "a"), ()), "back a"),
    ((("fresh", "abcdefgh"), ()), "fresh abcdefgh"),
    ((("leave", "turn"), ()), "leave turn"),
    ((("set", "a", (1, -2)), ()), "set a 1 -2"),
    ((("set", "a", (-10 ** 12, 0, 10 ** 12)), ()), "set a -1000000000000 0 1000000000000"),
    ((("join", "a", (0,)), ()), "join a 0"),
    ((("tie", "a", "b"), ()), "tie a b"),
    ((("cut", "b", "a"), ()), "cut b a"),
]


def kinds(thing):
    """The kinds of all that is in a thing."""
    if isinstance(thing, (list, tuple)):
        return (type(thing), [kinds(one) for one in thing])
    return type(thing)


class TextTest(unittest.TestCase):
    def both(self, book, text):
        self.assertEqual(book_text(book), text)
        self.assertEqual(read_book(text), book)
        self.assertEqual(kinds(read_book(text)), kinds(book))

    def none(self, *texts):
        for text in texts:
            with self.assertRaises(NoText):
                read_book(text)

    def letter(self, at, word):
        """The text of a book with a word of its letter otherwise."""
        words = LETTER_TEXT.split(" ")
        words[at] = word
        return "turn a ; " + " ".join(words)

    def none_at(self, at, *words):
        self.none(*[self.letter(at, word) for word in words])

    def let_by_at(self, at, *words):
        for word in words:
            book = read_book(self.letter(at, word))
            self.assertEqual(book_text(book), self.letter(at, word))
            yield book[0][1][0][at]


class BothWaysTest(TextTest):
    def test_no_rows(self):
        self.both([], "")

    def test_each_row(self):
        for row, text in ROWS:
            self.both([row], text)

    def test_all_rows(self):
        self.both([row for row, _ in ROWS], "\n".join(text for _, text in ROWS))
        self.both([row for row, _ in ROWS] * 2, "\n".join(text for _, text in ROWS * 2))

    def test_the_letter_of_the_document(self):
        self.both([(("turn", "c"), (LETTER,))], "turn c ; a b 1.0 - 0 0>>0,0>>0 a=1.1=5=b")

    def test_a_part_of_the_document(self):
        letter = LETTER[:5] + (((3, 2), (1, 0)),) + LETTER[6:]
        self.assertIn(" 3>>2,1>>0 ", book_text([(("turn", "a"), (letter,))]))

    def test_books_of_runs(self):
        self.assertEqual(read_book(book_text(BOOK)), BOOK)
        for seed in range(40):
            web, book = random_book(random.Random(f"texts {seed}"), 50)
            text = book_text(book)
            self.assertEqual(slow_read(text), book)
            self.both(book, text)

    def test_nothing_more_is_asked(self):
        # A letter from one to itself, not of the one who turns; an entry that names itself; other lengths of numbers.
        letter = ("q", "q", (9, 9), (8, 8), 0, ((1, 1), (1, 1), (5, 0)), (("m", 7, 1, (1,), ("m",)), ("n", 1, 1, (1, 2), ())))
        self.both([(("turn", "a"), (letter,))], "turn a ; q q 9.9 8.8 0 1>>1,1>>1,5>>0 m=7.1=1=m n=1.1=1,2=-")

    def test_what_is_handed_in_stays(self):
        book = copy.deepcopy(BOOK)
        text = book_text(book)
        self.assertEqual(book, BOOK)
        told = read_book(text)
        told.clear()
        self.assertEqual(read_book(text), BOOK)

    def test_long_books(self):
        book = [row for row, _ in ROWS] * 3000
        text = book_text(book)
        self.assertEqual(read_book(text), book)
        self.none(text + "\n", "\n" + text, text + " ", text[:-1])


class NumberTest(TextTest):
    def test_one_to_a_thousand_figures(self):
        for many in (1, 2, 59, 60, 61, 120, 121, 999, 1000):
            for number in (10 ** (many - 1), 10 ** many - 1):
                self.both([(("come", number), "taken")], f"come {number} : taken")
                letter = LETTER[:5] + (((-number, 0), (1, number)),) + LETTER[6:]
                self.both([(("turn", "a"), (letter,))], f"turn a ; a b 1.0 - 0 -{number}>>0,1>>{number} a=1.1=5=b")

    def test_more_figures(self):
        for number in (10 ** 1000, 10 ** 1001 - 1, 10 ** 4000):
            self.none(f"come {number} : taken", self.letter(5, f"-{number}>>0,0>>0"), self.letter(4, str(number)))
        self.none("come " + "1" * 10 ** 6 + " : taken", "come " + "9" * 5000 + " : taken", "set a " + "1" * 10 ** 5)

    def test_more_figures_are_written(self):
        for many in (1000, 4299, 4300, 6001, 20000):
            self.assertEqual(book_text([(("come", 10 ** many), "")]), "come 1" + "0" * many + " : nothing")
            letter = LETTER[:5] + (((-7 * 10 ** many, 0), (1, 0)),) + LETTER[6:]
            self.assertIn(" -7" + "0" * many + ">>0,1>>0 ", book_text([(("turn", "a"), (letter,))]))

    def test_wrong_numbers(self):
        for word in ("", "00", "01", "007", "-0", "-00", "-01", "+1", "+0", "--1", "-", "1-", "1.0", "1_0", "0x1", "1e3",
                     " 1", "1 ", "\t1", "1\r", "one", "a", "\u0661", "\uff11", "\u00b2", "1\u0660", "1,", "(1)", "1>>0"):
            self.none(f"come {word} : taken", f"set a {word}", f"join a 1 {word}", f"set a {word} 1")
            self.none_at(4, word)
            self.none_at(5, f"{word}>>0,0>>0", f"0>>0,0>>{word}")
            self.none_at(2, f"1.{word}", f"{word}.1")
            self.none_at(3, f"1.{word}", f"{word}.1")
            self.none_at(6, f"a=1.{word}=5=b", f"a={word}.1=5=b", f"a=1.1={word}=b", f"a=1.1=5,{word}=b")

    def test_numbers_of_deeds(self):
        self.none("come -1 : taken", "set a 1000000000001", "join a -1000000000001", "set a 1 2 3 4", "set a", "join a")
        self.none("set", "join", "set 1", "come : taken", "come 1 2 : taken", "set a b 1", "set a 1 b", "tie a 1")


class RowTest(TextTest):
    def test_no_text(self):
        for thing in odd_things() + [[], [""], b"turn a", ["turn a"], ("turn a",), BOOK]:
            if not isinstance(thing, str):
                self.none(thing)

    def test_odd_texts(self):
        self.none(*[thing for thing in odd_things() if isinstance(thing, str) and thing])
        self.none("\n", " ", "\n\n", "turn", "a", "web", "judge", "book", "turn a b", "walk a", "TURN a", "turn A", "-", ";")
        self.none("turn \u00e9", "turn a\u0301", "turn abcdefghi", "turn ", "turn a1", "turn a-", "tie a a", "cut a", "cut a b c")
        self.none("(" * 5000, "turn " + "a" * 10 ** 6, "turn a" + " ; " * 5000, " : " * 5000, "=" * 5000)
        self.none("\u2028", "turn a\u2028turn b", "turn a\rturn b", "turn a\r\nturn b", "turn\u00a0a", "turn a\x0b", "turn a\x00")

    def test_blanks_and_line_feeds(self):
        for row, text in ROWS:
            for wrong in (" " + text, text + " ", "\n" + text, text + "\n", text + "\n\n" + text, text + "\n " + text):
                self.none(wrong)
            for at, sign in enumerate(text):
                if sign == " ":
                    self.none(text[:at] + " " + text[at:], text[:at] + "\t" + text[at + 1:], text[:at] + "\n" + text[at + 1:])
                    self.none(text[:at] + text[at + 1:])

    def test_one_wrong_row(self):
        texts = [text for _, text in ROWS]
        for at in range(len(texts) + 1):
            for wrong in ("", "turn", "come 1", "a b"):
                self.none("\n".join(texts[:at] + [wrong] + texts[at:]))

    def test_behind_a_come(self):
        self.none("come 1", "come 1 :", "come 1 : ", "come 1 : took", "come 1 : Taken", "come 1 : taken : taken", "come 1: taken")
        self.none("come 1 :taken", "come 1 : taken ", "come 1 : taken heard", "come 1 taken", "come 1 ; taken", "come 1 : a")
        self.none("come 1 ; " + LETTER_TEXT, "come 1 : taken ; " + LETTER_TEXT, "come 1 : " + LETTER_TEXT)

    def test_behind_others(self):
        for text in ("fall a", "back a", "fresh a", "leave a", "set a 1", "join a 1", "tie a b", "cut a b"):
            self.none(text + " : taken", text + " : nothing", text + " ; " + LETTER_TEXT, text + " ;", text + " ()")
        self.none("turn a : taken", "turn a : nothing")

    def test_behind_a_turn(self):
        self.none("turn a ;", "turn a ; ", "turn a ; ; " + LETTER_TEXT, "turn a ;" + LETTER_TEXT, "turn a; " + LETTER_TEXT)
        self.none("turn a ; " + LETTER_TEXT + " ;", "turn a ; " + LETTER_TEXT + " ; ", "turn a " + LETTER_TEXT)
        self.none("turn a ; " + LETTER_TEXT + " " + LETTER_TEXT, "turn a ; " + LETTER_TEXT + "; " + LETTER_TEXT, LETTER_TEXT)


class LetterTest(TextTest):
    def test_names(self):
        for at in (0, 1):
            self.none_at(at, "", "A", "abcdefghi", "a1", "-", "1", "a,b", "\u00e9")
            self.assertEqual(list(self.let_by_at(at, "b", "abcdefgh", "a")), ["b", "abcdefgh", "a"])

    def test_words_more_and_fewer(self):
        words = LETTER_TEXT.split(" ")
        for at in range(len(words)):
            self.none("turn a ; " + " ".join(words[:at] + words[at + 1:]))
            for more in words + ["", "-", "x"]:
                self.none("turn a ; " + " ".join(words[:at] + [more] + words[at:]))

    def test_stamps(self):
        wrong = ("0.0", "0.1", "-1.0", "1.-1", "1", "1.", ".1", "1.0.0", "1,0", "1..0", "", "--", "1>>0", "None", "1.0-")
        for at in (2, 3):
            self.none_at(at, *wrong)
            self.assertEqual(list(self.let_by_at(at, "1.0", "12.30", "1.9")), [(1, 0), (12, 30), (1, 9)])
        self.none_at(2, "-")
        self.assertEqual(list(self.let_by_at(3, "-")), [None])

    def test_gifts(self):
        self.none_at(4, "-1", "-", "1.0", "1>>0", "a")
        self.assertEqual(list(self.let_by_at(4, "0", "1", "77")), [0, 1, 77])

    def test_parts(self):
        for word in ("2>>1", "0>>1", "-4>>3", "1>>-1", "6>>2", "1", "1>>", ">>1", "1>1", "1>>>1", "1>>1>>1", "1<<1", "1/2", "1.0", ""):
            self.none_at(5, f"{word},0>>0", f"0>>0,{word}", f"0>>0,{word},0>>0")
        rows = list(self.let_by_at(5, "-1>>1,1>>1", "2>>0,-3>>0", "-7>>300,0>>0"))
        self.assertEqual(rows, [((-1, 1), (1, 1)), ((2, 0), (-3, 0)), ((-7, 300), (0, 0))])

    def test_one_to_five_parts(self):
        for many in range(1, 6):
            word = ",".join(["1>>1"] * many)
            if 2 <= many <= 4:
                self.assertEqual(list(self.let_by_at(5, word)), [((1, 1),) * many])
            else:
                self.none_at(5, word)
        self.none_at(5, "", ",", "1>>1,", ",1>>1", "1>>1,,1>>1", "1>>1;1>>1", "-", "1>>1, 1>>1", ",".join(["1>>1"] * 9000))

    def test_entries(self):
        self.none_at(6, "", "a", "a=1.1", "a=1.1=5", "a=1.1=5=", "a=1.1=5=b=", "a=1.1=5=b=c", "=a=1.1=5=b", "a=1.1==b", "a==5=b")
        self.none_at(6, "a=0.1=5=b", "a=1.0=5=b", "a=-1.1=5=b", "a=1=5=b", "a=1.1.1=5=b", "a=1,1=5=b", "a=-=5=b", "a=1.-=5=b")
        self.none_at(6, "A=1.1=5=b", "abcdefghi=1.1=5=b", "-=1.1=5=b", "=1.1=5=b", "a=1.1=5=B", "a=1.1=5=abcdefghi", "a=1.1=-=b")
        self.none_at(6, "a=1.1=5,=b", "a=1.1=,5=b", "a=1.1=5.5=b", "a=1.1=1,2,3,4=b", "a=1.1=1000000000001=b", "a-1.1-5-b")
        self.none_at(6, "a=1.1=1,-1000000000001=b", "a=1.1=5=b a=1.1=5=", "a=1.1=5=-,b", "a=1.1=5=b,-", "a=1.1=5=--")

    def test_names_of_an_entry(self):
        self.none_at(6, "a=1.1=5=c,b", "a=1.1=5=b,b", "a=1.1=5=b,c,b", "a=1.1=5=b,,c", "a=1.1=5=b,", "a=1.1=5=,b", "a=1.1=5=b.c")
        self.none_at(6, "a=1.1=5=b,a", "a=1.1=5=ab,aa", "a=1.1=5=b, c")
        for word, names in (("-", ()), ("a", ("a",)), ("b,c,d,e,f,g,h,i,j,k", tuple("bcdefghijk")), ("a,aa,ab,b", ("a", "aa", "ab", "b"))):
            self.assertEqual([roll[0][4] for roll in self.let_by_at(6, f"a=1.1=5={word}")], [names])

    def test_entries_rise(self):
        one, two = "a=1.1=5=b", "b=1.1=5=a"
        self.none_at(6, f"{one} {one}", f"{two} {one}", f"{one} {two} {one}", f"{one} a=2.1=5=b", f"{one} {two} {two}", f"{one}  {two}")
        self.none_at(6, f"{one},{two}", f"{one};{two}", f"{one} ", f" {one}", "ab=1.1=5=- aa=1.1=5=-", "b=1.1=5=- ab=1.1=5=-")
        self.assertEqual([len(roll) for roll in self.let_by_at(6, one, f"{one} {two}", f"{one} ab=1.1=5=- {two}")], [1, 2, 3])


class AllTextsTest(TextTest):
    SIGNS = " \n;:.,=->>@0123456789abcxyzABZ_+\t/"

    def bent(self, rng, text):
        at = rng.randrange(len(text) + 1)
        choice = rng.randrange(5)
        if choice == 0:
            return text[:at] + rng.choice(self.SIGNS) + text[at:]
        if choice == 1:
            return text[:at] + text[at + 1:]
        if choice == 2:
            return text[:at] + rng.choice(self.SIGNS) + text[at + 1:]
        to = rng.randrange(len(text) + 1)
        if choice == 3:
            return text[:at] + text[to:]
        words = text.split(" ")
        words[rng.randrange(len(words))] = rng.choice(words)
        return " ".join(words)

    def test_bent_texts(self):
        texts = [text for _, text in ROWS] + ["\n".join(text for _, text in ROWS[:4])]
        seen = {True: 0, False: 0}
        for seed in range(6000):
            rng = random.Random(f"bent texts {seed}")
            text = rng.choice(texts)
            for _ in range(rng.choice((1, 1, 2))):
                text = self.bent(rng, text)
            book = slow_read(text)
            seen[book is None] += 1
            if book is None:
                self.none(text)
            else:
                self.both(book, text)
        self.assertGreater(min(seen.values()), 500, seen)

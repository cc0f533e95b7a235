import unittest

from sumtold.hand import Hand
from sumtold.pairs import own_row, part, row_halved, row_less, row_plus, row_times, zero_row

FIRST = (None, 0, zero_row(1), 0, zero_row(1))
OTHERS = "bcdefghi"


def entry(name, names="", life=1, version=1, numbers=(0,)):
    return (name, life, version, numbers, tuple(names))


def letter(sender, to="a", stamp=(1, 0), seen=None, gifts=0, given=zero_row(1), roll=None):
    return (sender, to, stamp, seen, gifts, given, roll or (entry(sender, to),))


def hand_with_open(many, numbers=(40,), names="bcdefghi"):
    """A hand with eight ties, so many of them open."""
    hand = Hand("a", numbers, list(names))
    for other in names[:many]:
        hand.take(letter(other, given=zero_row(len(numbers)), roll=(entry(other, "a", numbers=numbers),)))
    return hand


def state(hand):
    return (
        hand.books(), hand.numbers(), hand.others(), hand.held(), hand.answer(), hand.roll(), hand.sure(),
        [(hand.stamp(other), hand.account(other)) for other in hand.others()],
    )


class AtFirstTest(unittest.TestCase):
    def test_a_hand_alone(self):
        hand = Hand("a", (5, -7), [])
        self.assertEqual(hand.numbers(), (5, -7))
        self.assertEqual(hand.others(), [])
        self.assertEqual(hand.held(), ((5, 0), (-7, 0), (1, 0)))
        self.assertEqual(hand.answer(), ((5, 1), (-7, 1)))
        self.assertEqual(hand.roll(), (("a", 1, 1, (5, -7), ()),))
        self.assertEqual(hand.sure(), (1, ((5, "a"), (-7, "a"))))
        self.assertEqual(hand.turn(), [])
        self.assertEqual(hand.held(), ((5, 0), (-7, 0), (1, 0)))

    def test_a_hand_with_ties(self):
        hand = Hand("m", (5,), ["z", "b", "n"])
        self.assertEqual(hand.others(), ["b", "n", "z"])
        self.assertEqual(hand.roll(), (("m", 1, 1, (5,), ("b", "n", "z")),))
        self.assertIsNone(hand.sure())
        for other in "bnz":
            self.assertEqual(hand.stamp(other), (1, 0))
            self.assertEqual(hand.account(other), FIRST)

    def test_rows_are_as_long_as_the_numbers_and_one(self):
        for numbers in [(1,), (1, 2), (1, 2, 3)]:
            hand = Hand("a", numbers, ["b"])
            self.assertEqual(hand.account("b"), (None, 0, zero_row(len(numbers)), 0, zero_row(len(numbers))))

    def test_others_in_any_order(self):
        for others in (["b", "c", "d"], ["d", "c", "b"], ["c", "d", "b"]):
            self.assertEqual(state(Hand("a", (1,), others)), state(Hand("a", (1,), ["b", "c", "d"])))


class TurnTest(unittest.TestCase):
    def test_shares(self):
        for many, c in enumerate([0, 1, 2, 2, 3, 3, 3, 3, 4]):
            hand = hand_with_open(many)
            before = hand.held()
            letters = hand.turn()
            share = row_halved(before, c)
            self.assertEqual(hand.held(), row_less(before, row_times(share, many)), many)
            for other in OTHERS[:many]:
                self.assertEqual(hand.account(other), ((1, 0), 1, share, 0, zero_row(1)))
            for other in OTHERS[many:]:
                self.assertEqual(hand.account(other), FIRST)
            self.assertEqual([row[:2] for row in letters], [("a", other) for other in OTHERS])
            self.assertEqual([row[4] for row in letters], [1] * many + [0] * (8 - many))

    def test_the_very_letters(self):
        hand = Hand("m", (5,), ["z", "b"])
        hand.take(("z", "m", (3, 2), None, 0, zero_row(1), (entry("z", "m", 3, 9, (8,)),)))
        roll = (("m", 1, 1, (5,), ("b", "z")), ("z", 3, 9, (8,), ("m",)))
        self.assertEqual(hand.turn(), [
            ("m", "b", (1, 0), None, 0, ((0, 0), (0, 0)), roll),
            ("m", "z", (1, 0), (3, 2), 1, ((5, 1), (1, 1)), roll),
        ])
        self.assertEqual(hand.turn(), [
            ("m", "b", (1, 0), None, 0, ((0, 0), (0, 0)), roll),
            ("m", "z", (1, 0), (3, 2), 2, ((15, 2), (3, 2)), roll),
        ])
        self.assertEqual(hand.held(), ((5, 2), (1, 2)))
        self.assertEqual(hand.answer(), ((5, 1),))

    def test_given_is_the_sum_of_all_shares(self):
        hand = hand_with_open(3)
        given = zero_row(1)
        for gifts in range(1, 6):
            given = row_plus(given, row_halved(hand.held(), 2))
            letters = hand.turn()
            for at in range(3):
                self.assertEqual(letters[at][4:6], (gifts, given))

    def test_what_is_held_below_nought(self):
        hand = Hand("a", (10,), ["b"])
        hand.take(letter("b"))
        hand.turn()
        hand.set_own((1,))
        self.assertEqual(hand.held(), ((-4, 0), (1, 1)))
        self.assertEqual(hand.answer(), ((-8, 1),))
        self.assertEqual(hand.turn()[0][4:6], (2, ((3, 0), (3, 2))))
        self.assertEqual(hand.held(), ((-2, 0), (1, 2)))

    def hand_with_weight(self, taken):
        hand = Hand("a", (10,), ["b"])
        hand.take(letter("b", seen=(1, 0), gifts=1, given=((3, 0), taken)))
        return hand

    def test_no_answer_where_the_weight_is_not_above_nought(self):
        self.assertIsNone(self.hand_with_weight((-1, 0)).answer())
        self.assertIsNone(self.hand_with_weight((-2, 0)).answer())
        self.assertIsNone(self.hand_with_weight((-9, 3)).answer())
        self.assertEqual(self.hand_with_weight((-7, 3)).answer(), ((104, 1),))
        self.assertEqual(self.hand_with_weight((1, 1)).answer(), ((26, 3),))

    def test_a_weight_below_nought_is_shared_too(self):
        hand = self.hand_with_weight((-3, 0))
        self.assertEqual(hand.held(), ((13, 0), (-2, 0)))
        self.assertEqual(hand.turn()[0][4:6], (1, ((13, 1), (-1, 0))))
        self.assertEqual(hand.held(), ((13, 1), (-1, 0)))

    def test_a_turn_tells_nothing_new(self):
        hand = hand_with_open(2)
        roll, books = hand.roll(), hand.books()
        hand.turn()
        self.assertEqual(hand.roll(), roll)
        self.assertEqual(hand.books()[:5], books[:5])


class TakeTest(unittest.TestCase):
    def setUp(self):
        self.hand = Hand("a", (8,), ["b", "c"])

    def unchanged_by(self, told):
        before = state(self.hand)
        self.assertEqual(self.hand.take(told), "")
        self.assertEqual(state(self.hand), before)

    def test_from_one_with_whom_there_is_no_tie(self):
        self.unchanged_by(letter("d", roll=(entry("b", "a", 5), entry("d", "a"))))
        self.unchanged_by(letter("d", stamp=(9, 9), seen=(1, 0), gifts=3, given=((1, 0), (1, 0))))
        self.hand.cut("b")
        self.unchanged_by(letter("b", seen=(1, 0), gifts=3, given=((1, 0), (1, 0))))
        self.unchanged_by(letter("b", seen=(1, 1), gifts=3, given=((1, 0), (1, 0))))

    def test_a_first_letter_is_heard(self):
        self.assertEqual(self.hand.take(letter("b")), "heard")
        self.assertEqual(self.hand.account("b"), ((1, 0), 0, zero_row(1), 0, zero_row(1)))
        self.assertEqual(self.hand.account("c"), FIRST)
        self.assertEqual(self.hand.roll(), (entry("a", "bc", numbers=(8,)), entry("b", "a")))

    def test_a_first_letter_can_be_taken(self):
        given = ((3, 1), (1, 1))
        self.assertEqual(self.hand.take(letter("b", seen=(1, 0), gifts=2, given=given)), "taken")
        self.assertEqual(self.hand.account("b"), ((1, 0), 0, zero_row(1), 2, given))
        self.assertEqual(self.hand.held(), ((19, 1), (3, 1)))

    def test_again_and_out_of_turn(self):
        one, two, three = [
            letter("b", seen=(1, 0), gifts=gifts, given=((gifts * 5, 0), part(gifts, 3))) for gifts in (1, 2, 3)
        ]
        self.assertEqual(self.hand.take(two), "taken")
        for late in (one, two, one):
            account = self.hand.account("b")
            self.assertEqual(self.hand.take(late), "heard")
            self.assertEqual(self.hand.account("b"), account)
        self.assertEqual(self.hand.take(three), "taken")
        self.assertEqual(self.hand.account("b"), ((1, 0), 0, zero_row(1), 3, ((15, 0), (3, 3))))
        self.assertEqual(self.hand.held(), ((23, 0), (11, 3)))
        self.assertEqual(self.hand.take(two), "heard")

    def test_a_letter_to_another_stamp_is_heard_alone(self):
        for seen in (None, (1, 1), (2, 0), (0, 0)):
            self.assertEqual(self.hand.take(letter("b", seen=seen, gifts=5, given=((1, 0), (1, 0)))), "heard")
            self.assertEqual(self.hand.account("b"), ((1, 0), 0, zero_row(1), 0, zero_row(1)))

    def test_no_gifts_are_not_taken(self):
        self.assertEqual(self.hand.take(letter("b", seen=(1, 0), gifts=0)), "heard")

    def after_gifts(self, seen):
        self.hand.take(letter("b", stamp=seen, seen=(1, 0), gifts=4, given=((4, 0), (1, 0))))
        self.hand.turn()
        self.assertEqual(self.hand.account("b"), (seen, 1, ((6, 0), (1, 0)), 4, ((4, 0), (1, 0))))

    def test_of_an_elder_stamp(self):
        self.after_gifts((2, 3))
        for stamp in ((2, 2), (1, 3), (1, 9), (2, 0)):
            told = letter("b", stamp=stamp, seen=(1, 0), gifts=9, roll=(entry("b", "a", 9), entry("x", "b")))
            self.unchanged_by(told)

    def test_of_a_newer_stamp(self):
        for stamp in ((2, 4), (3, 0), (3, 3), (10, 0)):
            self.hand = Hand("a", (8,), ["b", "c"])
            self.after_gifts((2, 3))
            self.assertEqual(self.hand.take(letter("b", stamp=stamp)), "heard")
            self.assertEqual(self.hand.account("b"), (stamp, 0, zero_row(1), 0, zero_row(1)))
            self.assertEqual(self.hand.held(), own_row((8,)))

    def test_of_a_newer_stamp_with_gifts(self):
        self.after_gifts((2, 3))
        told = letter("b", stamp=(2, 4), seen=(1, 0), gifts=1, given=((7, 0), (1, 1)))
        self.assertEqual(self.hand.take(told), "taken")
        self.assertEqual(self.hand.account("b"), ((2, 4), 0, zero_row(1), 1, ((7, 0), (1, 1))))

    def test_stamps_go_by_life_then_by_era_as_numbers(self):
        self.hand.take(letter("b", stamp=(9, 10)))
        self.unchanged_by(letter("b", stamp=(9, 9)))
        self.assertEqual(self.hand.take(letter("b", stamp=(10, 0))), "heard")
        self.unchanged_by(letter("b", stamp=(9, 11)))

    def test_other_accounts_stay(self):
        self.hand.take(letter("c", seen=(1, 0), gifts=1, given=((2, 0), (1, 0))))
        self.hand.take(letter("b", seen=(1, 0), gifts=4, given=((4, 0), (1, 0))))
        self.hand.turn()
        before = self.hand.account("c")
        self.assertEqual(before, ((1, 0), 1, ((7, 1), (3, 2)), 1, ((2, 0), (1, 0))))
        self.hand.take(letter("b", stamp=(2, 0)))
        self.assertEqual(self.hand.account("c"), before)

    def test_rolls_are_merged_when_taken_and_when_heard(self):
        roll = (entry("a", "", 1, 1, (3,)), entry("b", "a", 2, 1), entry("d", "b", 1, 5, (4,)))
        self.hand.take(letter("b", seen=(1, 0), gifts=1, roll=roll))
        mine = entry("a", "bc", numbers=(8,))
        self.assertEqual(self.hand.roll(), (mine, roll[1], roll[2]))
        newer = (entry("b", "a", 1, 9), entry("c"), entry("d", "b", 1, 6))
        self.hand.take(letter("b", roll=newer))
        self.assertEqual(self.hand.roll(), (mine, roll[1], newer[1], newer[2]))

    def test_sure_by_what_was_heard(self):
        self.hand.take(letter("b", roll=(entry("b", "a", numbers=(9,)),)))
        self.assertIsNone(self.hand.sure())
        self.hand.take(letter("b", roll=(entry("c", "a", numbers=(7,)),)))
        self.assertEqual(self.hand.sure(), (3, ((9, "b"),)))


class ChangeTest(unittest.TestCase):
    def test_numbers_set(self):
        hand = hand_with_open(2)
        hand.turn()
        held, account = hand.held(), hand.account("b")
        self.assertIsNone(hand.set_own((45,)))
        self.assertEqual(hand.numbers(), (45,))
        self.assertEqual(hand.held(), row_plus(held, ((5, 0), (0, 0))))
        self.assertEqual(hand.account("b"), account)
        self.assertEqual(hand.roll()[0], ("a", 1, 2, (45,), tuple(OTHERS)))
        self.assertEqual(hand.books()[1:4], (1, 2, (45,)))
        hand.set_own((45,))
        self.assertEqual(hand.roll()[0], ("a", 1, 3, (45,), tuple(OTHERS)))
        self.assertEqual(len(hand.roll()), 3)

    def test_the_own_entry_is_written_anew_whatever_was_heard(self):
        hand = Hand("a", (5,), ["b"])
        hand.take(letter("b", roll=(entry("a", "b", 1, 9), entry("b", "a"))))
        hand.set_own((6,))
        self.assertEqual(hand.roll(), (entry("a", "b", 1, 2, (6,)), entry("b", "a")))

    def test_a_tie_taken_up(self):
        hand = Hand("m", (5,), ["z"])
        self.assertIsNone(hand.tie("b"))
        self.assertEqual(hand.others(), ["b", "z"])
        self.assertEqual(hand.account("b"), FIRST)
        self.assertEqual(hand.stamp("b"), (1, 0))
        self.assertEqual(hand.roll(), (("m", 1, 2, (5,), ("b", "z")),))
        self.assertEqual([row[1] for row in hand.turn()], ["b", "z"])

    def test_a_tie_cut_and_taken_up_again(self):
        hand = hand_with_open(2, names="bc")
        hand.turn()
        self.assertEqual(hand.held(), ((20, 0), (1, 1)))
        self.assertIsNone(hand.cut("b"))
        self.assertEqual(hand.others(), ["c"])
        self.assertEqual(hand.held(), ((30, 0), (3, 2)))
        self.assertEqual(hand.roll()[0], ("a", 1, 2, (40,), ("c",)))
        self.assertEqual(hand.books()[4], (("b", 1), ("c", 0)))
        hand.tie("b")
        self.assertEqual(hand.stamp("b"), (1, 1))
        self.assertEqual(hand.stamp("c"), (1, 0))
        self.assertEqual(hand.account("b"), FIRST)
        self.assertEqual(hand.roll()[0], ("a", 1, 3, (40,), ("b", "c")))
        hand.cut("b")
        hand.tie("b")
        self.assertEqual(hand.stamp("b"), (1, 2))
        self.assertEqual(hand.roll()[0], ("a", 1, 5, (40,), ("b", "c")))

    def test_a_letter_to_the_tie_that_was(self):
        hand = hand_with_open(1, names="b")
        hand.cut("b")
        hand.tie("b")
        late = letter("b", seen=(1, 0), gifts=3, given=((1, 0), (1, 0)))
        self.assertEqual(hand.take(late), "heard")
        self.assertEqual(hand.held(), own_row((40,)))
        self.assertEqual(hand.take(letter("b", stamp=(1, 1), seen=(1, 1), gifts=1, given=((1, 0), (1, 0)))), "taken")

    def test_fresh(self):
        hand = hand_with_open(3, names="bcd")
        hand.turn()
        hand.set_own((41,))
        hand.cut("c")
        hand.tie("c")
        hand.tie("x")
        hand.cut("x")
        self.assertIsNone(hand.fresh())
        self.assertEqual(hand.numbers(), (41,))
        self.assertEqual(hand.others(), ["b", "c", "d"])
        self.assertEqual(hand.held(), own_row((41,)))
        self.assertEqual(hand.roll(), (("a", 2, 1, (41,), ("b", "c", "d")),))
        for other in "bcd":
            self.assertEqual(hand.stamp(other), (2, 0))
            self.assertEqual(hand.account(other), FIRST)
        self.assertEqual(hand.books()[4], (("b", 0), ("c", 0), ("d", 0)))
        hand.tie("x")
        self.assertEqual(hand.stamp("x"), (2, 0))
        self.assertEqual(hand.roll()[0][1:3], (2, 2))
        hand.fresh()
        self.assertEqual(hand.roll(), (("a", 3, 1, (41,), ("b", "c", "d", "x")),))


class OwnListsTest(unittest.TestCase):
    def test_a_list_handed_in(self):
        others = ["c", "b"]
        hand = Hand("a", (5,), others)
        self.assertEqual(others, ["c", "b"])
        before = state(hand)
        others.append("d")
        others.pop(0)
        self.assertEqual(state(hand), before)

    def test_lists_told(self):
        hand = hand_with_open(2)
        letters = hand.turn()
        before = state(hand)
        letters.clear()
        hand.others().clear()
        hand.others().append("zz")
        self.assertEqual(state(hand), before)
        self.assertIsNot(hand.others(), hand.others())

    def test_letters_stay_as_they_were_told(self):
        hand = hand_with_open(2)
        letters = hand.turn()
        copy = [tuple(row) for row in letters]
        hand.turn()
        hand.set_own((1,))
        hand.cut("b")
        hand.fresh()
        self.assertEqual(letters, copy)

    def test_the_same_question_has_the_same_answer(self):
        hand = hand_with_open(5)
        hand.turn()
        self.assertEqual(state(hand), state(hand))

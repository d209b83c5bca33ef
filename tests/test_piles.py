import random
import unittest

from helper import refusal
from plansamid.errors import Done, NoRoom, NotDone
from plansamid.piles import Pile


def pile_of(hand, rows):
    pile = Pile(hand)
    for row in rows:
        pile.put(row)
    return pile


def ended(hand, rows):
    pile = pile_of(hand, rows)
    pile.end()
    return pile


def merged(pile):
    while pile.lots() > 1:
        pile.merge()
    return pile


def ones(*numbers):
    return [(number,) for number in numbers]


class PileTest(unittest.TestCase):

    def check(self, pile, lots, steps, hand=None):
        self.assertEqual((pile.lots(), pile.steps()), (lots, steps))
        if hand is not None:
            self.assertEqual(pile.hand(), hand)

    def test_a_full_hand_is_laid_out_ahead_of_the_next_row(self):
        for hand in (1, 2, 3):
            pile = Pile(hand)
            for many in range(1, 10):
                self.assertIsNone(pile.put((many,)))
                laid = (many - 1) // hand
                self.check(pile, laid, laid * hand, hand)

    def test_ended(self):
        for hand in (1, 2, 3, 8):
            for many in range(10):
                pile = pile_of(hand, ones(*range(many)))
                self.assertIsNone(pile.end())
                self.check(pile, -(-many // hand), many, hand)

    def test_of_nothing(self):
        pile = Pile(3)
        self.check(pile, 0, 0, 3)
        self.assertIs(refusal(pile.told).__class__, NotDone)
        pile.end()
        self.check(pile, 0, 0, 3)
        self.assertEqual(pile.told(), [])
        self.assertIs(refusal(pile.merge).__class__, Done)

    def test_one_lot_is_not_merged(self):
        pile = ended(3, ones(2, 3, 1))
        self.check(pile, 1, 3)
        self.assertEqual(pile.told(), ones(1, 2, 3))
        self.assertIs(refusal(pile.merge).__class__, Done)
        self.check(pile, 1, 3)

    def test_merged_by_twos(self):
        for hand in (1, 2):
            pile = ended(hand, ones(*range(5 * hand, 0, -1)))
            self.check(pile, 5, 5 * hand)
            steps = 5 * hand
            # The first two, then the next two, the lone last and the first merged, both at last.
            for lots, moved in ((4, 2 * hand), (3, 2 * hand), (2, 3 * hand), (1, 5 * hand)):
                self.assertIs(refusal(pile.told).__class__, NotDone)
                self.assertIsNone(pile.merge())
                steps += moved
                self.check(pile, lots, steps)
            self.assertEqual(pile.told(), ones(*range(1, 5 * hand + 1)))

    def test_merged_by_as_many_as_the_hand_holds(self):
        pile = ended(3, ones(*range(21)))
        self.check(pile, 7, 21)
        for lots, steps in ((5, 21 + 9), (3, 30 + 9), (1, 39 + 21)):
            pile.merge()
            self.check(pile, lots, steps)
        self.assertEqual(pile.told(), ones(*range(21)))

    def test_unlike_lots(self):
        # Lots of 3, 3, 1: the first two are merged, behind the one.
        pile = pile_of(3, ones(*range(7)))
        pile.end()
        pile.call_back(1)
        pile.merge()
        self.check(pile, 2, 7 + 6)
        pile.merge()
        self.check(pile, 1, 13 + 7)

    def test_lent_and_called_back_behind_the_end(self):
        pile = ended(2, ones(*range(12)))
        self.check(pile, 6, 12)
        pile.lend(2)
        pile.merge()
        self.check(pile, 3, 12 + 8, 4)
        pile.call_back(3)
        # Two at least.
        pile.merge()
        self.check(pile, 2, 20 + 4, 1)
        pile.lend(30)
        pile.merge()
        self.check(pile, 1, 24 + 12, 31)
        pile.call_back(30)
        self.check(pile, 1, 36, 1)
        self.assertEqual(pile.told(), ones(*range(12)))

    def test_called_back_with_rows_in_the_hand(self):
        pile = pile_of(4, ones(3, 1, 2))
        self.assertIsNone(pile.call_back(1))
        self.check(pile, 0, 0, 3)
        pile.call_back(1)
        self.check(pile, 1, 3, 2)
        pile.call_back(1)
        self.check(pile, 1, 3, 1)
        pile.put((0,))
        self.check(pile, 1, 3, 1)
        pile.put((9,))
        self.check(pile, 2, 4, 1)
        pile.end()
        self.check(pile, 3, 5)
        self.assertEqual(merged(pile).told(), ones(0, 1, 2, 3, 9))

    def test_lent_more_nothing_happens(self):
        pile = pile_of(2, ones(5, 4))
        self.assertIsNone(pile.lend(1))
        self.check(pile, 0, 0, 3)
        pile.put((3,))
        self.check(pile, 0, 0, 3)
        pile.put((2,))
        self.check(pile, 1, 3, 3)
        pile.lend(0)
        pile.call_back(0)
        self.check(pile, 1, 3, 3)

    def test_no_room_where_less_than_one_would_be_left(self):
        for do in (lambda pile: None, lambda pile: pile.put((1,)), lambda pile: pile.end()):
            for hand in (1, 3):
                pile = Pile(hand)
                do(pile)
                for many in (hand, hand + 1, 10 ** 30):
                    self.assertIs(refusal(pile.call_back, many).__class__, NoRoom)
                    self.assertEqual((pile.hand(), pile.lots(), pile.steps()), (hand, 0, 0))
                pile.call_back(hand - 1)
                self.assertEqual(pile.hand(), 1)
                self.assertIs(refusal(pile.call_back, n=1).__class__, NoRoom)

    def test_refusals_change_nothing(self):
        pile = pile_of(2, ones(3, 2, 1))
        self.assertIs(refusal(pile.merge).__class__, NotDone)
        self.assertIs(refusal(pile.told).__class__, NotDone)
        self.assertIs(refusal(pile.call_back, 2).__class__, NoRoom)
        self.check(pile, 1, 2, 2)
        pile.end()
        for _ in range(2):
            self.assertIs(refusal(pile.put, (0,)).__class__, Done)
            self.assertIs(refusal(pile.end).__class__, Done)
            self.assertIs(refusal(pile.told).__class__, NotDone)
            self.check(pile, 2, 3, 2)
        pile.merge()
        for _ in range(2):
            self.assertIs(refusal(pile.put, row=(0,)).__class__, Done)
            self.assertIs(refusal(pile.end).__class__, Done)
            self.assertIs(refusal(pile.merge).__class__, Done)
            self.check(pile, 1, 6, 2)
        self.assertEqual(pile.told(), ones(1, 2, 3))

    def test_rows_of_all_kinds_and_alike_ones(self):
        rows = [((1, "b"), 2, "x"), ((1, "a"), 10 ** 40, ""), ((0, "z"), -1, "x"), ((1, "a"), 10 ** 40, ""),
                ((1, ""), 0, "")]
        for hand in range(1, 7):
            self.assertEqual(merged(ended(hand, rows)).told(), sorted(rows))
        self.assertEqual(merged(ended(1, [(), (), ()])).told(), [(), (), ()])

    def test_what_is_told_is_the_askers_own(self):
        pile = merged(ended(1, ones(2, 1)))
        pile.told().clear()
        pile.told().append((7,))
        self.assertEqual(pile.told(), ones(1, 2))

    def test_by_seed_whatever_is_lent_and_called_back(self):
        chance = random.Random(20)
        for _ in range(200):
            hand = chance.randrange(1, 5)
            pile, rows = Pile(hand), [(chance.randrange(9), k) for k in range(chance.randrange(40))]
            in_hand, lots, steps, is_ended = 0, [], 0, False
            waiting = list(rows)
            while not is_ended or len(lots) > 1:
                deed = chance.choice(("go", "go", "go", "lend", "back"))
                many = chance.randrange(3)
                if deed == "lend":
                    pile.lend(many)
                    hand += many
                elif deed == "back":
                    error = refusal(pile.call_back, many)
                    self.assertEqual(error is not None, hand - many < 1)
                    hand -= many if error is None else 0
                    if in_hand > hand:
                        lots, steps, in_hand = lots + [in_hand], steps + in_hand, 0
                elif waiting:
                    if in_hand >= hand:
                        lots, steps, in_hand = lots + [in_hand], steps + in_hand, 0
                    pile.put(waiting.pop())
                    in_hand += 1
                elif not is_ended:
                    pile.end()
                    is_ended = True
                    if in_hand:
                        lots, steps, in_hand = lots + [in_hand], steps + in_hand, 0
                else:
                    pile.merge()
                    lots = lots[max(hand, 2):] + [sum(lots[:max(hand, 2)])]
                    steps += lots[-1]
                self.assertEqual((pile.hand(), pile.lots(), pile.steps()), (hand, len(lots), steps))
            self.assertEqual(pile.told(), sorted(rows))

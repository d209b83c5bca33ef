import random
import unittest

from helper import THINGS, some_ask, some_tables
from plansamid.counts import counts_of, guess, guessed
from plansamid.plans import plans_of
from plansamid.rules import is_rule, visit_at
from plansamid.tables import Tables


def ask_of(*sources):
    return (sources, (), ("rows", (("cell", "p", "x"),)), (), None, False)


P = ("with", "p", "a", ())
ONE = ask_of(P)
FOUR = ask_of(P, ("with", "q", "b", (("x", "p", "y"),)))
TWELVE = ask_of(P, ("with", "q", "b", (("x", "p", "y"),)), ("with", "r", "c", (("z", "q", "w"),)))
COUNTS = {"a": (10, {"x": 5, "y": 3}), "b": (7, {"x": 2, "y": 7}), "c": (4, {"z": 3, "y": 1})}


class IsRuleTest(unittest.TestCase):

    def test_the_bounds_of_each_word(self):
        for ask, plans in ((ONE, 1), (FOUR, 4), (TWELVE, 12)):
            self.assertEqual(len(plans_of(ask)), plans)
            for word, least, most in (("stay", 0, plans - 1), ("guess", 1, 10), ("rows", 1, 60)):
                for number in (least, most):
                    self.assertIs(is_rule(ask, (word, number)), True, (word, number))
                for number in (least - 1, most + 1, -1, 10 ** 99, -(10 ** 99)):
                    self.assertIs(is_rule(ask, (word, number)), False, (word, number))
            self.assertIs(is_rule(ask, ("double",)), True)

    def test_numbers_that_are_none(self):
        for word in ("stay", "guess", "rows"):
            for number in (True, False, None, "1", (1,), [1], "", {}, ()):
                self.assertIs(is_rule(TWELVE, (word, number)), False, (word, number))

    def test_more_and_fewer_parts(self):
        for thing in (("double", 0), ("double", 1), ("double", None), ("stay",), ("guess",), ("rows",), (), (0,),
                      ("stay", 0, 0), ("guess", 1, 1), ("rows", 1, None), ("double", "double"), ("doubles",),
                      ("Double",), ("", 1), ("stays", 0), (("double",),), ("double", ()), ("row", 1), (0, "stay"),
                      (1, 1), (None,)):
            self.assertIs(is_rule(TWELVE, thing), False, thing)

    def test_lists_and_other_things(self):
        for thing in (["double"], ["stay", 0], "double", "stay", {"double": 1}, {"stay": 0}, {"guess": 3}):
            self.assertIs(is_rule(TWELVE, thing), False, thing)
        for thing in THINGS:
            self.assertIs(is_rule(ONE, thing), False)
            self.assertIs(is_rule(ask=ONE, thing=(thing,)), False)
            self.assertIs(is_rule(ONE, ("rows", (thing,))), False)
            self.assertIs(is_rule(ONE, (thing, 1)), False)


class VisitAtTest(unittest.TestCase):

    def test_stay(self):
        for ask in (ONE, FOUR, TWELVE):
            plans = plans_of(ask)
            for k, plan in enumerate(plans):
                self.assertEqual(visit_at(ask, ("stay", k), COUNTS, 0), (plan, None, None))
                for far in (1, 2, 12, 1000):
                    self.assertIsNone(visit_at(ask, ("stay", k), COUNTS, far))

    def test_double(self):
        plans = guessed(FOUR, COUNTS)
        self.assertEqual([visit_at(FOUR, ("double",), COUNTS, k) for k in range(9)],
                         [(plan, 1, None) for plan in plans] + [(plan, 2, None) for plan in plans] +
                         [(plans[0], 4, None)])
        self.assertEqual(visit_at(FOUR, ("double",), COUNTS, 4 * 100 + 3), (plans[3], 2 ** 100, None))
        self.assertEqual([visit_at(ONE, ("double",), COUNTS, k)[1] for k in range(7)], [1, 2, 4, 8, 16, 32, 64])

    def test_guess(self):
        plans = guessed(FOUR, COUNTS)
        guesses = [guess(FOUR, plan, COUNTS) for plan in plans]
        self.assertEqual(guesses, sorted(guesses))
        for times in (1, 3, 10):
            told = [visit_at(FOUR, ("guess", times), COUNTS, k) for k in range(8)]
            self.assertEqual(told[:4], [(plan, much * times, None) for plan, much in zip(plans, guesses)])
            self.assertEqual(told[4:], [(plan, much * times * 2, None) for plan, much in zip(plans, guesses)])
            self.assertEqual(visit_at(FOUR, ("guess", times), COUNTS, 4 * 70 + 1),
                             (plans[1], guesses[1] * times * 2 ** 70, None))

    def test_rows(self):
        plans = guessed(FOUR, COUNTS)
        for many in (1, 7, 60):
            told = [visit_at(FOUR, ("rows", many), COUNTS, k) for k in range(8)]
            self.assertEqual(told, [(plan, None, many) for plan in plans + plans])
            self.assertEqual(visit_at(FOUR, ("rows", many), COUNTS, 4001), (plans[1], None, many))

    def test_the_guessed_order_by_hand(self):
        # One look, the lead's rows, then: kept 7 + 10 * 4, walked 10 * 7; kept 10 + 7 * 4, walked 7 * 10.
        self.assertEqual([visit_at(FOUR, ("guess", 1), COUNTS, k) for k in range(4)],
                         [(((1, 0), "kept"), 46, None), (((0, 1), "kept"), 58, None), (((1, 0), "walked"), 78, None),
                          (((0, 1), "walked"), 81, None)])

    def test_in_any_order(self):
        for rule in (("double",), ("guess", 2), ("rows", 3), ("stay", 5)):
            rising = [visit_at(TWELVE, rule, COUNTS, k) for k in range(40)]
            falling = [visit_at(ask=TWELVE, rule=rule, counts=COUNTS, k=k) for k in reversed(range(40))]
            self.assertEqual(rising, falling[::-1])

    def test_counts_that_lack_tables_and_columns(self):
        less = {"a": (10, {})}
        for ask in (ONE, FOUR, TWELVE):
            plans = guessed(ask, less)
            self.assertEqual(visit_at(ask, ("guess", 2), less, 0), (plans[0], 2 * guess(ask, plans[0], less), None))
            self.assertEqual(visit_at(ask, ("double",), {}, 0), (guessed(ask, {})[0], 1, None))
        # Each table has one row, each column one worth: 1 + 1 and 1 + 1, kept, or 1 walked.
        self.assertEqual([visit_at(FOUR, ("guess", 1), {}, k)[:2] for k in range(4)],
                         [(((0, 1), "walked"), 3), (((1, 0), "walked"), 3), (((0, 1), "kept"), 4),
                          (((1, 0), "kept"), 4)])

    def test_great_counts(self):
        great = {"a": (10 ** 60, {"x": 1, "y": 1}), "b": (10 ** 59, {"x": 3, "y": 0})}
        for k in range(4):
            plan, budget, rows = visit_at(FOUR, ("guess", 10), great, k)
            self.assertEqual((budget, rows), (10 * guess(FOUR, plan, great), None))

    def test_what_is_handed_in_stays(self):
        counts = {"a": (10, {"x": 5}), "b": (7, {})}
        for rule in (("double",), ("guess", 2), ("rows", 3), ("stay", 1)):
            for k in range(6):
                visit_at(FOUR, rule, counts, k)
        self.assertEqual(counts, {"a": (10, {"x": 5}), "b": (7, {})})

    def test_by_seeded_asks(self):
        chance = random.Random(18)
        for _ in range(60):
            ask, counts = some_ask(chance), counts_of(Tables(some_tables(chance)))
            plans = guessed(ask, counts)
            self.assertEqual(sorted(plans), plans_of(ask))
            for k in (0, 1, 5, 11, 23):
                at, doubled = k % len(plans), 2 ** (k // len(plans))
                self.assertEqual(visit_at(ask, ("double",), counts, k), (plans[at], doubled, None))
                self.assertEqual(visit_at(ask, ("guess", 3), counts, k),
                                 (plans[at], guess(ask, plans[at], counts) * 3 * doubled, None))
                self.assertEqual(visit_at(ask, ("rows", 2), counts, k), (plans[at], None, 2))

import random
import unittest
from fractions import Fraction
from math import ceil

from helper import some_ask, some_tables
from plansamid.counts import counts_of, guess, guessed
from plansamid.plans import links_of, plans_of
from plansamid.tables import Tables

P = ("with", "p", "a", ())
Q = ("with", "q", "b", (("x", "p", "y"),))
COUNTS = {"a": (10, {"x": 5, "y": 3}), "b": (7, {"x": 2, "y": 7}), "c": (4, {"x": 3, "y": 1})}


def ask_of(*sources):
    return (sources, (), ("rows", (("cell", "p", "x"),)), (), None, False)


def guess_again(ask, plan, counts):
    """The guess, told once more with fractions."""
    order, way = plan
    links = links_of(ask, plan)

    def rows(number):
        return counts[ask[0][number][2]][0] if ask[0][number][2] in counts else 1

    def share(number):
        unlikes = counts[ask[0][number][2]][1] if ask[0][number][2] in counts else {}
        return ceil(Fraction(rows(number), unlikes.get(links[number][0], 1) or 1))

    looks, many = Fraction(1 + rows(order[0])), rows(order[0])
    for number in order[1:] + tuple(range(len(order), len(ask[0]))):
        kept = way == "kept" and number in links
        looks += rows(number) + many * share(number) if kept else many * rows(number)
        if number in order:
            many *= share(number) if number in links else rows(number)
    return looks


class CountsOfTest(unittest.TestCase):

    DEEDS = [("table", "a", ("x", "y")), ("row", "a", (1, 2)), ("row", "a", (1, 3)), ("table", "b", ("z",)),
             ("row", "a", (2, 3)),
             ("out", "a", 1), ("row", "b", (4,)), ("out", "b", 0)]

    def test_now_and_at_elder_moments(self):
        tables = Tables(self.DEEDS)
        wanted = [
            {}, {"a": (0, {"x": 0, "y": 0})}, {"a": (1, {"x": 1, "y": 1})}, {"a": (2, {"x": 1, "y": 2})},
            {"a": (2, {"x": 1, "y": 2}), "b": (0, {"z": 0})}, {"a": (3, {"x": 2, "y": 2}), "b": (0, {"z": 0})},
            {"a": (2, {"x": 2, "y": 2}), "b": (0, {"z": 0})}, {"a": (2, {"x": 2, "y": 2}), "b": (1, {"z": 1})},
            {"a": (2, {"x": 2, "y": 2}), "b": (0, {"z": 0})},
        ]
        for moment, counts in enumerate(wanted):
            self.assertEqual(counts_of(tables, moment=moment), counts)
        self.assertEqual(counts_of(tables=tables), wanted[-1])
        self.assertEqual(counts_of(Tables()), {})
        with self.assertRaises(TypeError):
            counts_of(tables, 3)

    def test_what_is_told_is_the_askers_own(self):
        tables = Tables(self.DEEDS)
        counts = counts_of(tables)
        self.assertIs(counts.__class__, dict)
        self.assertIs(counts["a"].__class__, tuple)
        counts["a"][1].clear()
        counts.clear()
        self.assertEqual(counts_of(tables)["a"], (2, {"x": 2, "y": 2}))


class GuessTest(unittest.TestCase):

    def test_the_lead_alone(self):
        self.assertEqual(guess(ask_of(P), ((0,), "walked"), COUNTS), 1 + 10)

    def test_kept_and_walked(self):
        ask = ask_of(P, Q)
        # b has 7 rows, 2 unlike x: 4 for each; a has 10 rows, 3 unlike y: 4 for each.
        self.assertEqual(guess(ask, ((0, 1), "kept"), COUNTS), 1 + 10 + 7 + 10 * 4)
        self.assertEqual(guess(ask, ((0, 1), "walked"), COUNTS), 1 + 10 + 10 * 7)
        self.assertEqual(guess(ask, ((1, 0), "kept"), COUNTS), 1 + 7 + 10 + 7 * 4)
        self.assertEqual(guess(ask, ((1, 0), "walked"), COUNTS), 1 + 7 + 7 * 10)

    def test_many_goes_on_by_shares_where_there_is_a_link(self):
        ask = ask_of(P, Q, ("with", "r", "c", ()))
        # Walked too, what a link ties goes on by its share.
        self.assertEqual(guess(ask, ((0, 1, 2), "walked"), COUNTS), 1 + 10 + 10 * 7 + 40 * 4)
        self.assertEqual(guess(ask, ((0, 1, 2), "kept"), COUNTS), 1 + 10 + 7 + 10 * 4 + 40 * 4)
        self.assertEqual(guess(ask, ((0, 2, 1), "kept"), COUNTS), 1 + 10 + 10 * 4 + 7 + 40 * 4)
        self.assertEqual(guess(ask, ((2, 0, 1), "walked"), COUNTS), 1 + 4 + 4 * 10 + 40 * 7)

    def test_others_behind_the_withs(self):
        none, perhaps = ("none", "t", "c", (("x", "p", "x"),)), ("perhaps", "s", "b", ())
        # c has 4 rows, 3 unlike x: 2 for each. Neither changes how many go on.
        self.assertEqual(guess(ask_of(P, none, perhaps), ((0,), "kept"), COUNTS), 1 + 10 + 4 + 10 * 2 + 10 * 7)
        self.assertEqual(guess(ask_of(P, perhaps, none), ((0,), "kept"), COUNTS), 1 + 10 + 10 * 7 + 4 + 10 * 2)
        self.assertEqual(guess(ask_of(P, none, perhaps), ((0,), "walked"), COUNTS), 1 + 10 + 10 * 4 + 10 * 7)
        self.assertEqual(guess(ask_of(P, Q, none), ((1, 0), "kept"), COUNTS), 1 + 7 + 10 + 7 * 4 + 4 + 28 * 2)

    def test_tables_and_columns_that_counts_do_not_have(self):
        ask = ask_of(P, Q)
        self.assertEqual(guess(ask, ((0, 1), "kept"), {}), 1 + 1 + 1 + 1)
        self.assertEqual(guess(ask, ((0, 1), "walked"), {}), 1 + 1 + 1)
        self.assertEqual(guess(ask, ((0, 1), "kept"), {"b": (7, {"x": 2})}), 1 + 1 + 7 + 4)
        self.assertEqual(guess(ask, ((0, 1), "kept"), {"a": (10, {}), "b": (7, {})}), 1 + 10 + 7 + 10 * 7)
        self.assertEqual(guess(ask, ((0, 1), "kept"), {"a": (10, {}), "b": (7, {"y": 7, "q": 2})}), 1 + 10 + 7 + 10 * 7)
        self.assertEqual(guess(ask, ((0, 1), "kept"), dict(COUNTS, zz=(3, {"x": 9}))), 58)

    def test_none_unlike_and_no_rows(self):
        ask = ask_of(P, Q)
        self.assertEqual(guess(ask, ((0, 1), "kept"), {"a": (10, {"y": 1}), "b": (7, {"x": 0})}), 1 + 10 + 7 + 10 * 7)
        self.assertEqual(guess(ask, ((0, 1), "kept"), {"a": (10, {"y": 1}), "b": (0, {"x": 0})}), 1 + 10)
        self.assertEqual(guess(ask, ((0, 1), "kept"), {"a": (10, {"y": 1}), "b": (0, {"x": 5})}), 1 + 10)
        self.assertEqual(guess(ask, ((0, 1), "kept"), {"a": (0, {"y": 0}), "b": (7, {"x": 2})}), 1 + 7)
        self.assertEqual(guess(ask, ((0, 1), "kept"), {"a": (2, {"y": 0}), "b": (7, {"x": 9})}), 1 + 2 + 7 + 2 * 1)

    def test_great_numbers_come_exactly(self):
        ask = ask_of(P, Q)
        rows = 10 ** 30 - 1
        for unlikes, share in ((1, rows), (2, 5 * 10 ** 29), (3, rows // 3), (9, rows // 9), (10 ** 15, 10 ** 15),
                               (10 ** 29, 10), (rows, 1), (rows - 1, 2), (7, rows // 7 + (1 if rows % 7 else 0))):
            counts = {"a": (rows, {}), "b": (rows, {"x": unlikes})}
            self.assertEqual(guess(ask, ((0, 1), "kept"), counts), 1 + rows + rows + rows * share)

    def test_by_their_names_and_nothing_changed(self):
        counts = {"a": (10, {"x": 5}), "b": (7, {"x": 2})}
        self.assertEqual(guess(ask=ask_of(P, Q), plan=((0, 1), "kept"), counts=counts), 58)
        guessed(ask=ask_of(P, Q), counts=counts)
        self.assertEqual(counts, {"a": (10, {"x": 5}), "b": (7, {"x": 2})})

    def test_against_fractions(self):
        chance = random.Random(8)
        for _ in range(200):
            ask = some_ask(chance)
            counts = {}
            for name in chance.choice(("abc", "ab", "c")):
                unlikes = {column: chance.randrange(8) for column in chance.choice(("", "x", "xy"))}
                counts[name] = (chance.randrange(12), unlikes)
            for plan in plans_of(ask):
                told = guess(ask, plan, counts)
                self.assertIs(told.__class__, int)
                self.assertEqual(told, guess_again(ask, plan, counts))


class GuessedTest(unittest.TestCase):

    def test_by_their_guesses(self):
        # 58 and 81 by p first, 46 and 78 by q first.
        self.assertEqual(guessed(ask_of(P, Q), COUNTS),
                         [((1, 0), "kept"), ((0, 1), "kept"), ((1, 0), "walked"), ((0, 1), "walked")])

    def test_the_same_as_they_compare(self):
        self.assertEqual(guessed(ask_of(P, ("with", "q", "a", ())), COUNTS), [((0, 1), "walked"), ((1, 0), "walked")])
        ask = ask_of(P, Q, ("with", "r", "c", ()))
        # Of nothing known the kept ones cost one more each.
        walked = [plan for plan in plans_of(ask) if plan[1] == "walked"]
        kept = [plan for plan in plans_of(ask) if plan[1] == "kept"]
        self.assertEqual(guessed(ask, {}), walked + kept)
        nought = {"a": (0, {}), "b": (0, {}), "c": (0, {})}
        self.assertEqual(guessed(ask, nought), plans_of(ask))

    def test_all_plans_by_counts_of_tables(self):
        chance = random.Random(4)
        for _ in range(100):
            ask, tables = some_ask(chance), Tables(some_tables(chance))
            counts = counts_of(tables, moment=chance.randrange(tables.moment() + 1))
            told = guessed(ask, counts)
            self.assertEqual(told, sorted(plans_of(ask), key=lambda plan: (guess_again(ask, plan, counts), plan)))
            told.clear()
            self.assertEqual(sorted(guessed(ask, counts)), plans_of(ask))

import random
import unittest

from helper import refusal, some_ask, some_tables, to_the_end
from plansamid.errors import NotDone
from plansamid.hindsight import cost, hindsight, share
from plansamid.plans import plans_of
from plansamid.runs import Run
from plansamid.tables import Tables


def cell(alias, column):
    return ("cell", alias, column)


TABLES = Tables([("table", "a", ("x", "y")), ("row", "a", (1, 5)), ("row", "a", (2, 6)), ("row", "a", (1, 7)),
                 ("table", "b", ("x", "z")), ("row", "b", (1, 0)), ("row", "b", (2, 1)), ("row", "b", (1, 2)),
                 ("row", "b", (3, 3)), ("table", "c", ("x",))])
SOURCES = (("with", "p", "a", ()), ("with", "q", "b", (("x", "p", "x"),)))
YZ = ("rows", (cell("p", "y"), cell("q", "z")))
ASK = (SOURCES, (), YZ, (), None, False)
# (0, 1) kept 1 + 4 + 3 + 2 + 3, walked 1 + 3 * 5; (1, 0) kept 1 + 3 + 3 + 2 + 3 + 1, walked 1 + 4 * 4.
COSTS = [13, 16, 13, 17]


class CostTest(unittest.TestCase):

    def test_each_plan(self):
        self.assertEqual([cost(TABLES, ASK, plan) for plan in plans_of(ASK)], COSTS)
        self.assertEqual(cost(tables=TABLES, ask=ASK, plan=((0, 1), "kept"), moment=None, rooms=20, starts=None), 13)

    def test_sorted_ones_cost_no_more(self):
        for more in (((0, "down"),), 2, False), ((), 1, True):
            self.assertEqual([cost(TABLES, (SOURCES, (), YZ) + more, plan) for plan in plans_of(ASK)], COSTS)
        groups = (SOURCES, (), ("groups", (), (("count", cell("p", "x")),)), (), None, False)
        self.assertEqual([cost(TABLES, groups, plan) for plan in plans_of(ASK)], COSTS)

    def test_rooms(self):
        # Without rooms for 3 or 4 rows it is walked.
        for rooms, costs in ((0, [16, 16, 17, 17]), (2, [16, 16, 17, 17]), (3, [16, 16, 13, 17]), (4, COSTS)):
            self.assertEqual([cost(TABLES, ASK, plan, rooms=rooms) for plan in plans_of(ASK)], costs)

    def test_starts(self):
        for starts in ((0, 0), (2, 3), [1, 1]):
            self.assertEqual([cost(TABLES, ASK, plan, starts=starts) for plan in plans_of(ASK)], COSTS)
        chance = random.Random(26)
        for _ in range(30):
            ask, tables = some_ask(chance), Tables(some_tables(chance))
            sizes = [len(tables.rows(table)) for way, _, table, _ in ask[0] if way == "with"]
            starts = [chance.randrange(max(size, 1)) for size in sizes]
            for k, plan in enumerate(plans_of(ask)):
                run = to_the_end(Run(tables, ask, rule=("stay", k), starts=starts, rooms=6))
                self.assertEqual(cost(tables, ask, plan, starts=starts, rooms=6), run.looks())

    def test_moments(self):
        tables = Tables(TABLES.deeds())
        then = tables.moment()
        tables.do(("row", "b", (1, 9)))
        tables.do(("out", "a", 0))
        self.assertEqual([cost(tables, ASK, plan, moment=then) for plan in plans_of(ASK)], COSTS)
        # Two of p, five of q: 1 + 5 + 2 + 4 and 1 + 2 * 6; 1 + 2 + 2 + 2 + 2 + 1 + 2 and 1 + 5 * 3.
        for moment in (None, tables.moment()):
            self.assertEqual([cost(tables, ASK, plan, moment=moment) for plan in plans_of(ASK)], [12, 13, 12, 16])

    def test_nothing_is_looked_at_where_a_source_has_no_row(self):
        ask = (SOURCES + (("none", "s", "b", ()),), (), YZ, (), None, False)
        self.assertGreater(cost(TABLES, ask, ((0, 1), "kept")), 0)
        ask = ((SOURCES[0], ("with", "r", "c", ())), (), ("rows", (cell("p", "x"),)), (), None, False)
        for plan in plans_of(ask):
            self.assertEqual(cost(TABLES, ask, plan), 0)


class HindsightTest(unittest.TestCase):

    def test_of_runs_that_are_done_or_not(self):
        for rule, looks in ((("stay", 0), [0, 5, 8, 10, 13]), (("double",), [0, 1, 2, 3, 4, 6, 7])):
            run = Run(TABLES, ASK, rule=rule)
            for many in looks:
                told = hindsight(run)
                self.assertEqual(told, (many, COSTS))
                told[1].clear()
                if not run.is_done():
                    run.turn()
        run = to_the_end(Run(TABLES, ASK))
        self.assertEqual(hindsight(run), (59, COSTS))

    def test_with_rooms_starts_and_moment_as_it_has_them(self):
        tables = Tables(TABLES.deeds())
        run = to_the_end(Run(tables, ASK, rule=("stay", 3), rooms=4, starts=(2, 3)))
        tables.do(("row", "a", (1, 9)))
        self.assertEqual(hindsight(run=run), (17, COSTS))
        run.call_back(1)
        self.assertEqual(hindsight(run), (17, [16, 16, 13, 17]))
        run.call_back(3)
        self.assertEqual(hindsight(run), (17, [16, 16, 17, 17]))
        run.lend(9)
        self.assertEqual(hindsight(run), (17, COSTS))

    def test_by_starts(self):
        # Each row of the lead meets all rows of the others: starts show in no cost.
        ask = (SOURCES + (("with", "r", "a", ()),), (), YZ, (), None, False)
        for starts in ((0, 0, 0), (2, 3, 1)):
            run = Run(TABLES, ask, starts=starts)
            self.assertEqual(hindsight(run)[1], [cost(TABLES, ask, plan, starts=starts) for plan in plans_of(ask)])

    def test_it_changes_nothing(self):
        run, other = Run(TABLES, ASK), Run(TABLES, ASK)
        while not run.is_done():
            hindsight(run)
            self.assertEqual(run.turn(), other.turn())
            self.assertEqual((run.looks(), run.visits(), run.slabs()), (other.looks(), other.visits(), other.slabs()))


class ShareTest(unittest.TestCase):

    def test_not_done_before(self):
        for ask in (ASK, ASK[:3] + ((), 1, False)):
            run = Run(TABLES, ask, rule=("stay", 0))
            while not run.is_done():
                self.assertIs(refusal(share, run).__class__, NotDone)
                run.turn()
            self.assertEqual(share(run=run), (13, 4 * 4 * 13))

    def test_with_rooms_as_it_has_them(self):
        run = to_the_end(Run(TABLES, ASK, rule=("stay", 1), rooms=0))
        self.assertEqual(share(run), (16, 4 * 4 * 16))
        run.lend(3)
        self.assertEqual(share(run), (16, 4 * 4 * 13))

    def test_of_one_plan_and_of_nothing(self):
        one = ((SOURCES[0],), (), ("rows", (cell("p", "x"),)), (), None, False)
        self.assertEqual(share(to_the_end(Run(TABLES, one, rule=("stay", 0)))), (4, 4 * 1 * 4))
        none = ((("with", "p", "c", ()),), (), ("rows", (cell("p", "x"),)), (), None, False)
        self.assertEqual(share(Run(TABLES, none)), (0, 0))

    def test_a_run_that_doubles_keeps_within_it(self):
        chance = random.Random(27)
        closest = 0
        for _ in range(80):
            ask, tables = some_ask(chance), Tables(some_tables(chance))
            sizes = [len(tables.rows(table)) for way, _, table, _ in ask[0] if way == "with"]
            starts = [chance.randrange(max(size, 1)) for size in sizes]
            # Whatever is guessed.
            counts = chance.choice((None, {}, {"a": (99, {"x": 3}), "b": (0, {}), "c": (1, {"y": 0})}))
            run = to_the_end(Run(tables, ask, counts=counts, rooms=chance.randrange(9), starts=starts))
            looks, bound = share(run)
            self.assertEqual((looks, bound), (run.looks(), 4 * len(plans_of(ask)) * min(hindsight(run)[1])))
            self.assertLessEqual(looks, bound)
            closest = max(closest, looks / bound if bound else 0)
        self.assertGreater(closest, 0.3)

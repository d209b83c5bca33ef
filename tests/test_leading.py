import random
import unittest

from helper import Led, Plain, places_key, refusal, some_ask, some_tables
from plansamid.errors import Spent
from plansamid.leading import led
from plansamid.plans import links_of, plans_of
from plansamid.tables import Tables


def cell(alias, column):
    return ("cell", alias, column)


def ask_of(*sources, sieves=(), telling=("rows", (("cell", "p", "x"),)), struck=False):
    return (sources, sieves, telling, (), None, struck)


def found_by(found):
    """What was found, in the order of places."""
    return sorted(found, key=lambda one: places_key(one[0]))


def led_by(*args, **more):
    looks, found = led(*args, **more)
    return looks, found_by(found)


def all_led(tables, ask, plan, starts=None, kept=None, moment=None):
    """Looks and found of each row of the lead, led one by one."""
    withs = [table for way, _, table, _ in ask[0] if way == "with"]
    starts = starts or [0] * len(withs)
    told = []
    for done in range(len(tables.rows(withs[plan[0][0]], moment=moment))):
        yet = tuple((start, done if at == plan[0][0] else 0) for at, start in enumerate(starts))
        told.append(led(tables, ask, plan, yet, kept=kept, moment=moment))
    return told


# p: 0 (1, 5), 1 (2, 6), 2 (1, 7); q: 0 (1, 0), 1 (2, 1), 2 (1, 2), 3 (3, 3)
TABLES = Tables([("table", "a", ("x", "y")), ("row", "a", (1, 5)), ("row", "a", (2, 6)), ("row", "a", (1, 7)),
                 ("table", "b", ("x", "z")), ("row", "b", (1, 0)), ("row", "b", (2, 1)), ("row", "b", (1, 2)),
                 ("row", "b", (3, 3)), ("table", "c", ("x",)), ("row", "c", (1,)), ("row", "c", (1,)),
                 ("row", "c", (5,)), ("table", "d", ("x",))])
P = ("with", "p", "a", ())
Q = ("with", "q", "b", (("x", "p", "x"),))
PQ = (cell("p", "y"), cell("q", "z"))
JOINED = ask_of(P, Q, telling=("rows", PQ))


class LooksTest(unittest.TestCase):

    def test_the_row_itself(self):
        ask = ask_of(P)
        for done, worths in enumerate([(1,), (2,), (1,)]):
            self.assertEqual(led_by(TABLES, ask, ((0,), "walked"), ((0, done),)), (1, [((done,), worths, None)]))

    def test_walked_at_those_yet_to_be_met(self):
        plan = ((0, 1), "walked")
        self.assertEqual(led_by(TABLES, JOINED, plan, ((0, 0), (0, 0))),
                         (5, [((0, 0), (5, 0), None), ((0, 2), (5, 2), None)]))
        self.assertEqual(led_by(TABLES, JOINED, plan, ((0, 0), (0, 1))), (4, [((0, 2), (5, 2), None)]))
        self.assertEqual(led_by(TABLES, JOINED, plan, ((0, 0), (0, 3))), (2, []))
        self.assertEqual(led_by(TABLES, JOINED, plan, ((0, 0), (0, 4))), (1, []))

    def test_kept_at_those_of_the_link_done_ones_too(self):
        plan = ((0, 1), "kept")
        self.assertEqual(led_by(TABLES, JOINED, plan, ((0, 0), (0, 0))),
                         (3, [((0, 0), (5, 0), None), ((0, 2), (5, 2), None)]))
        self.assertEqual(led_by(TABLES, JOINED, plan, ((0, 0), (0, 1))), (3, [((0, 2), (5, 2), None)]))
        self.assertEqual(led_by(TABLES, JOINED, plan, ((0, 0), (0, 4))), (3, []))
        self.assertEqual(led_by(TABLES, JOINED, plan, ((0, 1), (0, 0))), (2, [((1, 1), (6, 1), None)]))

    def test_the_other_way_about(self):
        self.assertEqual(led_by(TABLES, JOINED, ((1, 0), "kept"), ((0, 1), (0, 2))), (3, [((2, 2), (7, 2), None)]))
        self.assertEqual(led_by(TABLES, JOINED, ((1, 0), "walked"), ((0, 1), (0, 2))), (3, [((2, 2), (7, 2), None)]))
        self.assertEqual(led_by(TABLES, JOINED, ((1, 0), "kept"), ((0, 0), (0, 3))), (1, []))
        self.assertEqual(led_by(TABLES, JOINED, ((1, 0), "walked"), ((0, 0), (0, 3))), (4, []))

    def test_starts_go_round_about(self):
        for way in ("kept", "walked"):
            # The rows of p stand 2, 0, 1; those of q 3, 0, 1, 2.
            told = [led(TABLES, JOINED, ((0, 1), way), ((2, done), (3, 2)))[1] for done in range(3)]
            self.assertEqual(told, [[((2, 2), (7, 2), None)], [((0, 2), (5, 2), None)], [((1, 1), (6, 1), None)]])
        self.assertEqual(led_by(TABLES, JOINED, ((0, 1), "walked"), ((2, 1), (3, 2)))[0], 3)

    def test_kept_left_out_and_told(self):
        chain = ask_of(P, Q, ("with", "r", "c", (("x", "q", "x"),)), ("perhaps", "s", "c", (("x", "p", "x"),)))
        plan, yet = ((0, 1, 2), "kept"), ((0, 0), (0, 1), (0, 1))
        # Kept: q has 2 rows of it, r 2 for the one that goes on, s 2. Walked: 3, 2, 3.
        looks = {(): 1 + 3 + 2 + 3, (1,): 1 + 2 + 2 + 3, (2,): 1 + 3 + 2 + 3, (3,): 1 + 3 + 2 + 2,
                 (1, 2): 1 + 2 + 2 + 3, (1, 3): 1 + 2 + 2 + 2, (2, 3): 1 + 3 + 2 + 2, (1, 2, 3): 1 + 2 + 2 + 2}
        wanted = [((0, 2, 1, 0), (1,), None), ((0, 2, 1, 1), (1,), None)]
        for kept, many in looks.items():
            for told in (kept, kept[::-1]):
                self.assertEqual(led_by(TABLES, chain, plan, yet, kept=told), (many, wanted), told)
        self.assertEqual(led_by(TABLES, chain, plan, yet)[0], looks[(1, 2, 3)])
        self.assertEqual(led_by(TABLES, chain, ((0, 1, 2), "walked"), yet)[0], looks[()])

    def test_without_a_link_it_is_walked(self):
        ask = ask_of(P, ("with", "q", "b", ()), ("perhaps", "s", "c", (("x", "p", "x"),)))
        looks, found = led(TABLES, ask, ((0, 1), "kept"), ((0, 0), (0, 1)))
        # q at 3 of 4, then s at the 2 of the link for each.
        self.assertEqual((looks, len(found)), (1 + 3 + 3 * 2, 6))
        self.assertEqual(led_by(TABLES, ask, ((0, 1), "walked"), ((0, 0), (0, 1)))[0], 1 + 3 + 3 * 3)

    def test_several_pairs_must_fit(self):
        tables = Tables([("table", "a", ("x", "y")), ("row", "a", (1, 5)),
                         ("table", "b", ("x", "y")), ("row", "b", (1, 4)), ("row", "b", (1, 5)), ("row", "b", (2, 5))])
        ask = ask_of(P, ("with", "q", "b", (("x", "p", "x"), ("y", "p", "y"))))
        turned = ask_of(P, ("with", "q", "b", (("y", "p", "y"), ("x", "p", "x"))))
        for one in (ask, turned):
            # The first pair is the link, of either one two rows.
            self.assertEqual(led_by(tables, one, ((0, 1), "kept"), ((0, 0), (0, 0))), (3, [((0, 1), (1,), None)]))
            self.assertEqual(led_by(tables, one, ((0, 1), "walked"), ((0, 0), (0, 0))), (4, [((0, 1), (1,), None)]))
            self.assertEqual(led_by(tables, one, ((1, 0), "kept"), ((0, 0), (0, 1))), (2, [((0, 1), (1,), None)]))

    def test_pairs_of_sources_behind_wait_for_them(self):
        # r is tied to both; led p, r, q it is tied to p alone at first, and q then to both.
        ask = ask_of(P, Q, ("with", "r", "c", (("x", "p", "x"), ("x", "q", "x"))))
        self.assertEqual(links_of(ask, ((0, 2, 1), "kept")), {2: ("x", "p", "x"), 1: ("x", "p", "x")})
        yet = ((0, 0), (0, 0), (0, 0))
        told = {order: led(TABLES, ask, (order, "kept"), yet) for order in ((0, 1, 2), (0, 2, 1))}
        self.assertEqual([looks for looks, found in told.values()], [1 + 2 + 2 * 2, 1 + 2 + 2 * 2])
        for looks, found in told.values():
            self.assertEqual([places for places, _, _ in found_by(found)], [(0, 0, 0), (0, 0, 1), (0, 2, 0), (0, 2, 1)])

    def test_a_table_joined_with_itself(self):
        ask = ask_of(P, ("with", "q", "a", (("x", "p", "x"),)), telling=("rows", (cell("p", "y"), cell("q", "y"))))
        self.assertEqual(led_by(TABLES, ask, ((0, 1), "kept"), ((0, 2), (1, 0))),
                         (3, [((2, 0), (7, 5), None), ((2, 2), (7, 7), None)]))
        self.assertEqual(led_by(TABLES, ask, ((0, 1), "walked"), ((0, 0), (0, 2))), (2, [((0, 2), (5, 7), None)]))
        # The row of q is done where that of p isn't.
        self.assertEqual(led_by(TABLES, ask, ((0, 1), "kept"), ((0, 0), (0, 1))), (3, [((0, 2), (5, 7), None)]))


class OthersTest(unittest.TestCase):

    def looks(self, *sources, row=0, way="kept", kept=None):
        looks, found = led_by(TABLES, ask_of(P, *sources), ((0,), way), ((0, row),), kept=kept)
        return looks, [places for places, _, _ in found]

    def test_perhaps(self):
        source = ("perhaps", "s", "c", (("x", "p", "x"),))
        self.assertEqual(self.looks(source), (3, [(0, 0), (0, 1)]))
        self.assertEqual(self.looks(source, way="walked"), (4, [(0, 0), (0, 1)]))
        self.assertEqual(self.looks(source, row=1), (1, [(1, None)]))
        self.assertEqual(self.looks(source, row=1, way="walked"), (4, [(1, None)]))

    def test_perhaps_without_pairs_and_of_no_rows(self):
        for way in ("kept", "walked"):
            self.assertEqual(self.looks(("perhaps", "s", "c", ()), way=way), (4, [(0, 0), (0, 1), (0, 2)]))
            self.assertEqual(self.looks(("perhaps", "s", "d", ()), way=way), (1, [(0, None)]))
            self.assertEqual(self.looks(("perhaps", "s", "d", (("x", "p", "x"),)), way=way), (1, [(0, None)]))

    def test_perhaps_with_two_pairs(self):
        # Of the link x two rows are looked at, of the link z one; none fits both.
        first = ("perhaps", "s", "b", (("x", "p", "x"), ("z", "p", "x")))
        self.assertEqual(self.looks(first), (3, [(0, None)]))
        self.assertEqual(self.looks(("perhaps", "s", "b", first[3][::-1])), (2, [(0, None)]))
        self.assertEqual(self.looks(first, way="walked"), (5, [(0, None)]))

    def test_none(self):
        source = ("none", "s", "c", (("x", "p", "x"),))
        # All rows of it are looked at, behind the first that fits too.
        self.assertEqual(self.looks(source), (3, []))
        self.assertEqual(self.looks(source, way="walked"), (4, []))
        self.assertEqual(self.looks(source, row=1), (1, [(1,)]))
        self.assertEqual(self.looks(source, row=1, way="walked"), (4, [(1,)]))

    def test_none_without_pairs_and_of_no_rows(self):
        for way in ("kept", "walked"):
            self.assertEqual(self.looks(("none", "s", "c", ()), way=way), (4, []))
            self.assertEqual(self.looks(("none", "s", "d", ()), way=way), (1, [(0,)]))

    def test_one_behind_the_other_for_all_that_goes_on_by_itself(self):
        perhaps, none = ("perhaps", "s", "c", (("x", "p", "x"),)), ("none", "t", "b", (("x", "p", "x"),))
        # Two go on behind s, each is dropped by t; ahead of s one is.
        self.assertEqual(self.looks(perhaps, none), (1 + 2 + 2 * 2, []))
        self.assertEqual(self.looks(none, perhaps), (1 + 2, []))
        self.assertEqual(self.looks(perhaps, none, way="walked"), (1 + 3 + 2 * 4, []))
        self.assertEqual(self.looks(none, perhaps, way="walked"), (1 + 4, []))
        self.assertEqual(self.looks(perhaps, none, kept=(2,)), (1 + 3 + 2 * 2, []))
        both = (perhaps, ("perhaps", "t", "b", (("z", "p", "x"),)))
        self.assertEqual(self.looks(*both), (1 + 2 + 2 * 1, [(0, 0, 1), (0, 1, 1)]))
        self.assertEqual(self.looks(*both, row=1), (1 + 0 + 1, [(1, None, 2)]))

    def test_done_rows_of_the_same_table_stay(self):
        # What is done counts for the "with" sources alone.
        ask = ask_of(P, ("perhaps", "s", "a", (("x", "p", "x"),)))
        for way, looks in (("kept", 3), ("walked", 4)):
            told = led_by(TABLES, ask, ((0,), way), ((0, 2),))
            self.assertEqual((told[0], [places for places, _, _ in told[1]]), (looks, [(2, 0), (2, 2)]))


def over(part):
    return ("over", ("number", 6), part)


class SievesTest(unittest.TestCase):

    # Of p's row 0, x is 1 and y 5; no q is below nought.
    HOLDS = ("below", cell("p", "x"), cell("p", "y"))
    FAILS = ("below", cell("p", "y"), cell("p", "x"))
    FAULTS = ("alike", over(("less", cell("p", "x"), cell("p", "x"))), ("number", 1))
    LATER = ("below", cell("q", "z"), ("number", 1))
    LATER_OVER = ("below", over(cell("q", "z")), ("number", 5))
    WITHOUT = ("alike", ("number", 1), ("number", 2))
    WITHOUT_FAULTS = ("lacking", over(("number", 0)))

    def looks(self, *sieves, sources=(P, Q), way="walked", order=(0, 1)):
        return led_by(TABLES, ask_of(*sources, sieves=sieves), (order, way), ((0, 0),) * len(order))

    def test_dropped_behind_the_lead(self):
        self.assertEqual(self.looks(self.FAILS), (1, []))
        self.assertEqual(self.looks(self.HOLDS, self.FAILS), (1, []))
        self.assertEqual(self.looks(self.WITHOUT), (1, []))
        # One that waits, and may not fault, stands in no one's way.
        self.assertEqual(self.looks(self.LATER, self.FAILS), (1, []))
        self.assertEqual(self.looks(self.FAILS, self.FAULTS), (1, []))

    def test_not_dropped_behind_one_that_may_fault(self):
        # Both q that fit go on. One divides by 0; the other one holds (6 // 2 is below 5), so FAILS drops it.
        self.assertEqual(self.looks(self.LATER_OVER, self.FAILS), (5, [((0, 0), None, ("sieve", 0))]))
        self.assertEqual(self.looks(self.FAILS, self.LATER_OVER), (1, []))

    def test_one_that_faulted_early_is_kept(self):
        self.assertEqual(self.looks(self.FAULTS, self.FAILS),
                         (5, [((0, 0), None, ("sieve", 0)), ((0, 2), None, ("sieve", 0))]))
        # Told where all ahead hold at last: q's z is 0, or 2.
        self.assertEqual(self.looks(self.LATER, self.FAULTS), (5, [((0, 0), None, ("sieve", 1))]))
        self.assertEqual(self.looks(self.LATER, self.WITHOUT_FAULTS), (5, [((0, 0), None, ("sieve", 1))]))
        self.assertEqual(self.looks(self.WITHOUT_FAULTS, self.WITHOUT),
                         (5, [((0, 0), None, ("sieve", 0)), ((0, 2), None, ("sieve", 0))]))

    def test_dropped_between_two(self):
        third = ("with", "r", "c", ())
        # Behind q one of two is dropped, the other one goes on to the three of r.
        self.assertEqual(self.looks(self.LATER, sources=(P, Q, third), order=(0, 1, 2))[0], 1 + 4 + 3)
        self.assertEqual(self.looks(self.LATER, sources=(P, Q, third), order=(0, 2, 1))[0], 1 + 3 + 3 * 4)
        self.assertEqual(self.looks(self.LATER, sources=(P, Q, third), order=(0, 1, 2), way="kept")[0], 1 + 2 + 3)
        both = ("alike", cell("q", "z"), cell("r", "x"))
        others = (third, ("perhaps", "s", "d", ()), ("none", "t", "c", (("x", "p", "y"),)))
        # No q's z that fits is an x of r: none goes on to s and t.
        self.assertEqual(self.looks(both, sources=(P, Q) + others, order=(0, 1, 2)), (1 + 4 + 2 * 3, []))

    def test_those_of_a_perhaps_source_are_looked_at_last(self):
        perhaps = ("perhaps", "s", "c", (("x", "p", "x"),))
        again = ("perhaps", "t", "b", (("x", "p", "x"),))
        lacking = ("lacking", cell("s", "x"))
        # s is there, so all are dropped, but behind t.
        self.assertEqual(self.looks(lacking, sources=(P, perhaps, again), order=(0,)), (1 + 3 + 2 * 4, []))
        self.assertEqual(self.looks(lacking, self.FAILS, sources=(P, perhaps, again), order=(0,)), (1, []))
        divided = ("below", over(("less", cell("s", "x"), ("number", 1))), ("number", 0))
        self.assertEqual(self.looks(divided, self.FAILS, sources=(P, perhaps), order=(0,)),
                         (4, [((0, 0), None, ("sieve", 0)), ((0, 1), None, ("sieve", 0))]))
        mixed = ("unlike", cell("s", "x"), cell("p", "x"))
        self.assertEqual(self.looks(mixed, sources=(P, perhaps, again), order=(0,)), (1 + 3 + 2 * 4, []))

    def test_none_that_drops_a_fault(self):
        none = ("none", "s", "c", (("x", "p", "x"),))
        self.assertEqual(self.looks(self.FAULTS, sources=(P, none), order=(0,)), (4, []))


class FoundTest(unittest.TestCase):

    def test_faults_of_the_telling(self):
        parts = (cell("p", "y"), over(cell("q", "z")), over(("less", cell("q", "z"), ("number", 2))))
        ask = ask_of(P, Q, telling=("rows", parts))
        for plan in plans_of(ask):
            told = [one for _, found in all_led(TABLES, ask, plan) for one in found]
            self.assertEqual(found_by(told), [((0, 0), None, ("tell", 1)), ((0, 2), None, ("tell", 2)),
                                              ((1, 1), (6, 6, -6), None), ((2, 0), None, ("tell", 1)),
                                              ((2, 2), None, ("tell", 2))])

    def test_struck_ones_and_groups_are_told_one_by_one(self):
        struck = ask_of(P, Q, telling=("rows", (cell("p", "x"),)), struck=True)
        wanted = [((0, 0), (1,), None), ((0, 2), (1,), None)]
        self.assertEqual(found_by(led(TABLES, struck, ((0, 1), "kept"), ((0, 0), (0, 0)))[1]), wanted)
        sums = (("sum", cell("p", "y")), ("count", cell("p", "x")))
        groups = ask_of(P, Q, telling=("groups", (cell("q", "z"),), sums))
        wanted = [((0, 0), (0, 5, 1), None), ((0, 2), (2, 5, 1), None)]
        self.assertEqual(found_by(led(TABLES, groups, ((0, 1), "kept"), ((0, 0), (0, 0)))[1]), wanted)
        fault = ask_of(P, telling=("groups", (), (("sum", cell("p", "y")), ("least", over(("number", 0))))))
        self.assertEqual(led_by(TABLES, fault, ((0,), "walked"), ((0, 0),))[1], [((0,), None, ("tell", 1))])

    def test_order_and_first_cut_nothing_off(self):
        ask = (JOINED[0], (), ("rows", PQ), ((0, "down"),), 1, False)
        self.assertEqual(len(led(TABLES, ask, ((0, 1), "kept"), ((0, 0), (0, 0)))[1]), 2)

    def test_what_is_there_at_the_moment(self):
        tables = Tables(TABLES.deeds())
        before = tables.moment()
        elder = {plan: all_led(tables, JOINED, plan) for plan in plans_of(JOINED)}
        tables.do(("out", "b", 0))
        tables.do(("row", "b", (1, 9)))
        tables.do(("out", "a", 1))
        for plan in plans_of(JOINED):
            self.assertEqual(all_led(tables, JOINED, plan, moment=before), elder[plan])
        self.assertEqual(led_by(tables, JOINED, ((0, 1), "walked"), ((0, 0), (0, 0))),
                         (5, [((0, 2), (5, 2), None), ((0, 4), (5, 9), None)]))
        self.assertEqual(led_by(tables, JOINED, ((0, 1), "kept"), ((0, 1), (0, 2))), (3, [((2, 4), (7, 9), None)]))
        # Behind four deeds there is row 0 of a alone, and of b nothing yet.
        self.assertEqual(led_by(tables, ask_of(P), ((0,), "walked"), ((0, 0),), moment=2), (1, [((0,), (1,), None)]))

    def test_what_is_handed_in_stays_and_what_is_told_is_the_askers_own(self):
        tables, twin = Tables(TABLES.deeds()), Tables(TABLES.deeds())
        told = led(tables=tables, ask=JOINED, plan=((0, 1), "kept"), yet=((0, 0), (0, 0)), moment=None, kept=(1,),
                   budget=9)
        self.assertIs(told.__class__, tuple)
        self.assertIs(told[1].__class__, list)
        wanted = (3, list(told[1]))
        told[1].clear()
        self.assertEqual(led_by(tables, JOINED, ((0, 1), "kept"), ((0, 0), (0, 0))), wanted)
        self.assertEqual(tables, twin)


class BudgetTest(unittest.TestCase):

    def check(self, tables, ask, plan, yet, **more):
        looks, found = led(tables, ask, plan, yet, **more)
        for budget in (0, looks - 1):
            for _ in range(2):
                error = refusal(led, tables, ask, plan, yet, budget=budget, **more)
                self.assertIs(error.__class__, Spent)
                self.assertEqual(error.budget, budget)
        for budget in (looks, looks + 1, 10 ** 40, None):
            self.assertEqual(led_by(tables, ask, plan, yet, budget=budget, **more), (looks, found))

    def test_by_hand(self):
        for way in ("kept", "walked"):
            self.check(TABLES, JOINED, ((0, 1), way), ((0, 0), (0, 1)))
            self.check(TABLES, ask_of(P, ("none", "s", "c", (("x", "p", "x"),))), ((0,), way), ((0, 0),))
            self.check(TABLES, ask_of(P, ("perhaps", "s", "c", ())), ((0,), way), ((0, 1),))
        self.check(TABLES, ask_of(P), ((0,), "walked"), ((0, 0),))
        self.check(TABLES, JOINED, ((0, 1), "kept"), ((0, 0), (0, 1)), kept=())

    def test_by_seeded_asks(self):
        chance = random.Random(17)
        for _ in range(40):
            ask, tables = some_ask(chance), Tables(some_tables(chance))
            sizes = [len(tables.rows(table)) for way, _, table, _ in ask[0] if way == "with"]
            for plan in plans_of(ask):
                if sizes[plan[0][0]] > 0:
                    self.check(tables, ask, plan, ((0, 0),) * len(sizes))


class SeededTest(unittest.TestCase):
    """Row by row against the document's counting, and what all rows find together."""

    def setUp(self):
        chance = random.Random(15)
        self.cases = []
        while len(self.cases) < 120:
            ask, deeds = some_ask(chance), some_tables(chance)
            tables, moment = Tables(deeds), chance.choice((None, None, len(deeds) // 2))
            sizes = [len(tables.rows(table, moment=moment)) if table in tables.names(moment=moment) else 0
                     for _, _, table, _ in ask[0]]
            if moment is not None and moment < 3 or max(sizes) == 0:
                continue
            for _ in range(5 if moment is not None else 0):
                tables.do(("row", "a", (chance.randrange(3), chance.randrange(3))))
            self.cases.append((chance, tables, ask, sizes, moment))

    def test_each_row_led(self):
        many = 0
        for chance, tables, ask, sizes, moment in self.cases:
            plain = Plain(tables, ask, moment)
            for plan in plans_of(ask):
                links = links_of(ask, plan)
                for _ in range(3):
                    yet = tuple((chance.randrange(max(size, 1)), chance.randrange(size + 1))
                                for size in sizes[:len(plan[0])])
                    start, done = yet[plan[0][0]]
                    if done == sizes[plan[0][0]]:
                        continue
                    every = tuple(links) if plan[1] == "kept" else ()
                    some = tuple(number for number in every if chance.randrange(2))
                    for kept in (None, some, some[::-1]):
                        again = Led(plain, plan, yet, every if kept is None else kept)
                        self.assertEqual(led_by(tables, ask, plan, yet, moment=moment, kept=kept),
                                         (again.looks, found_by(again.found)), (ask, plan, yet, kept))
                        many += 1
        self.assertGreater(many, 1000)

    def test_all_rows_find_each_found_one_once_by_every_plan(self):
        for chance, tables, ask, sizes, moment in self.cases:
            plain = Plain(tables, ask, moment)
            rows, (_, faults) = plain.found_rows(), plain.answer()
            wanted = found_by([(places, worths, None) for places, worths in rows] +
                              [(places, None, what) for places, what in faults])
            withs = sizes[:len(plain.by_way("with"))]
            starts = [chance.randrange(max(size, 1)) for size in withs]
            for plan in plans_of(ask):
                told = all_led(tables, ask, plan, starts, moment=moment)
                self.assertEqual(found_by([one for _, found in told for one in found]), wanted, (ask, plan))

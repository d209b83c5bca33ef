import copy
import itertools
import random
import unittest

from helper import Plain, some_ask, some_tables
from plansamid.asks import is_ask
from plansamid.plainly import combinations, founds, plainly
from plansamid.tables import Tables

PX = ("cell", "p", "x")
PY = ("cell", "p", "y")
SY = ("cell", "s", "y")
ONE = ("with", "p", "a", ())


def tables_of(**rows):
    """Tables of columns x, y with these rows."""
    deeds = []
    for name, theirs in rows.items():
        deeds.append(("table", name, ("x", "y")))
        deeds.extend(("row", name, row) for row in theirs)
    return Tables(deeds)


def ask_of(*sources, sieves=(), telling=("rows", (PX,)), order=(), first=None, struck=False):
    return (sources, sieves, telling, order, first, struck)


SOME = tables_of(a=[(1, 10), (2, 20), (1, 30)], b=[(1, 1), (1, 10), (3, 30), (2, 2)], c=[(10, 5), (30, 6), (30, 7)])


class CombinationsTest(unittest.TestCase):

    def test_one_source(self):
        self.assertEqual(combinations(SOME, ask_of(ONE)), [(0,), (1,), (2,)])
        self.assertEqual(combinations(tables_of(a=[]), ask_of(ONE)), [])

    def test_all_choices_without_pairs(self):
        ask = ask_of(ONE, ("with", "q", "b", ()))
        self.assertEqual(combinations(SOME, ask), list(itertools.product(range(3), range(4))))

    def test_pairs(self):
        ask = ask_of(ONE, ("with", "q", "b", (("x", "p", "x"),)))
        self.assertEqual(combinations(SOME, ask), [(0, 0), (0, 1), (1, 3), (2, 0), (2, 1)])
        both = ask_of(ONE, ("with", "q", "b", (("x", "p", "x"), ("y", "p", "y"))))
        self.assertEqual(combinations(SOME, both), [(0, 1)])
        crossed = ask_of(ONE, ("with", "q", "b", (("y", "p", "x"),)))
        self.assertEqual(combinations(SOME, crossed), [(0, 0), (1, 3), (2, 0)])

    def test_three_sources(self):
        ask = ask_of(ONE, ("with", "q", "b", (("x", "p", "x"),)), ("with", "r", "c", (("x", "p", "y"),)))
        self.assertEqual(combinations(SOME, ask), [(0, 0, 0), (0, 1, 0), (2, 0, 1), (2, 0, 2), (2, 1, 1), (2, 1, 2)])
        two = ask_of(ONE, ("with", "q", "b", (("x", "p", "x"),)),
                     ("with", "r", "c", (("x", "p", "y"), ("x", "q", "y"))))
        self.assertEqual(combinations(SOME, two), [(0, 1, 0)])

    def test_a_table_with_itself(self):
        ask = ask_of(ONE, ("with", "q", "a", (("x", "p", "x"),)))
        self.assertEqual(combinations(SOME, ask), [(0, 0), (0, 2), (1, 1), (2, 0), (2, 2)])

    def test_those_that_a_none_one_drops_too(self):
        for pairs in ((), (("x", "p", "x"),)):
            ask = ask_of(ONE, ("none", "t", "b", pairs), ("perhaps", "s", "b", pairs))
            self.assertEqual(combinations(SOME, ask), [(0,), (1,), (2,)])

    def test_empty_tables(self):
        tables = tables_of(a=[(1, 1)], b=[])
        self.assertEqual(combinations(tables, ask_of(ONE, ("with", "q", "b", ()))), [])
        self.assertEqual(combinations(tables, ask_of(("with", "q", "b", ()), ("with", "p", "a", ()))), [])

    def test_rows_out_and_elder_moments(self):
        tables = SOME.twin()
        ask = ask_of(ONE, ("with", "q", "b", (("x", "p", "x"),)))
        then = tables.moment()
        tables.do(("out", "a", 0))
        self.assertEqual(combinations(tables, ask), [(1, 3), (2, 0), (2, 1)])
        tables.do(("out", "b", 1))
        self.assertEqual(combinations(tables, ask), [(1, 3), (2, 0)])
        self.assertEqual(tables.do(("row", "a", (3, 0))), 3)
        self.assertEqual(combinations(tables, ask), [(1, 3), (2, 0), (3, 2)])
        self.assertEqual(combinations(tables, ask, moment=then), [(0, 0), (0, 1), (1, 3), (2, 0), (2, 1)])
        self.assertEqual(combinations(tables, ask, moment=then + 1), [(1, 3), (2, 0), (2, 1)])


class FoundsTest(unittest.TestCase):

    def test_none_ones(self):
        self.assertEqual(founds(SOME, ask_of(ONE, ("none", "t", "c", (("x", "p", "y"),)))), [(1,)])
        self.assertEqual(founds(SOME, ask_of(ONE, ("none", "t", "c", (("x", "p", "y"), ("y", "p", "x"))))),
                         [(0,), (1,), (2,)])
        # Without a pair each row drops all.
        self.assertEqual(founds(SOME, ask_of(ONE, ("none", "t", "c", ()))), [])
        self.assertEqual(founds(tables_of(a=[(1, 1)], c=[]), ask_of(ONE, ("none", "t", "c", ()))), [(0,)])
        two = ask_of(ONE, ("none", "t", "c", (("x", "p", "y"),)), ("none", "u", "b", (("y", "p", "x"),)))
        self.assertEqual(founds(SOME, two), [])

    def test_perhaps_ones(self):
        self.assertEqual(founds(SOME, ask_of(ONE, ("perhaps", "s", "c", (("x", "p", "y"),)))),
                         [(0, 0), (1, None), (2, 1), (2, 2)])
        self.assertEqual(founds(SOME, ask_of(ONE, ("perhaps", "s", "b", ()))),
                         list(itertools.product(range(3), range(4))))
        self.assertEqual(founds(tables_of(a=[(1, 1)], c=[]), ask_of(ONE, ("perhaps", "s", "c", ()))), [(0, None)])
        two = ask_of(ONE, ("perhaps", "s", "c", (("x", "p", "y"),)), ("perhaps", "v", "b", (("y", "p", "y"),)))
        self.assertEqual(founds(SOME, two), [(0, 0, 1), (1, None, None), (2, 1, 2), (2, 2, 2)])

    def test_perhaps_and_none_in_either_order(self):
        none = ("none", "t", "b", (("x", "p", "x"), ("y", "p", "y")))
        perhaps = ("perhaps", "s", "c", (("x", "p", "y"),))
        for sources in ((ONE, none, perhaps), (ONE, perhaps, none)):
            self.assertEqual(founds(SOME, ask_of(*sources)), [(1, None), (2, 1), (2, 2)])

    def test_places_behind_several_withs(self):
        ask = ask_of(ONE, ("with", "q", "b", (("x", "p", "x"),)), ("perhaps", "s", "c", (("x", "q", "y"),)))
        self.assertEqual(founds(SOME, ask), [(0, 0, None), (0, 1, 0), (1, 3, None), (2, 0, None), (2, 1, 0)])

    def test_many_dropped_of_those_that_perhaps_ones_would_make_many(self):
        rows = [(number, 0) for number in range(40)]
        tables = tables_of(a=rows, b=rows)
        withs = (ONE, ("with", "q", "b", ()))
        self.assertEqual(founds(tables, ask_of(*withs, ("perhaps", "s", "a", ()), ("none", "t", "b", ()))), [])

    def test_the_cells_of_none_are_none(self):
        ask = ask_of(ONE, ("perhaps", "s", "c", (("x", "p", "y"),)), telling=("rows", (PX, SY)))
        self.assertEqual(plainly(SOME, ask), ([((1, 5), [(0, 0)]), ((2, None), [(1, None)]), ((1, 6), [(2, 1)]),
                                               ((1, 7), [(2, 2)])], []))


class SievesTest(unittest.TestCase):

    # Of the rows 0 to 2 of a, the worth x is 0, 1, 2: the first faults, the others don't.
    TABLES = tables_of(a=[(0, 5), (1, 6), (2, 7)])
    FAULT = ("alike", ("over", PY, PX), ("over", PY, PX))
    NOT = ("below", PX, ("number", 0))
    IS = ("below", PX, ("number", 9))

    def plain(self, sieves, telling=("rows", (PY,))):
        ask = ask_of(ONE, sieves=tuple(sieves), telling=telling)
        self.assertTrue(is_ask(ask))
        return plainly(self.TABLES, ask)

    def test_the_first_that_does_not_hold_or_faults(self):
        rest = [((6,), [(1,)]), ((7,), [(2,)])]
        self.assertEqual(self.plain([]), ([((5,), [(0,)])] + rest, []))
        self.assertEqual(self.plain([self.IS]), ([((5,), [(0,)])] + rest, []))
        self.assertEqual(self.plain([self.NOT]), ([], []))
        self.assertEqual(self.plain([self.FAULT]), (rest, [((0,), ("sieve", 0))]))
        self.assertEqual(self.plain([self.IS, self.FAULT]), (rest, [((0,), ("sieve", 1))]))
        self.assertEqual(self.plain([self.FAULT, self.IS, self.FAULT]), (rest, [((0,), ("sieve", 0))]))
        self.assertEqual(self.plain([self.IS, self.IS, self.IS, self.FAULT]), (rest, [((0,), ("sieve", 3))]))
        self.assertEqual(self.plain([self.NOT, self.FAULT]), ([], []))
        self.assertEqual(self.plain([self.FAULT, self.NOT]), ([], [((0,), ("sieve", 0))]))
        self.assertEqual(self.plain([self.IS, self.NOT, self.FAULT]), ([], []))

    def test_each_order_against_another_way(self):
        some = (self.FAULT, self.NOT, self.IS, ("unlike", PX, ("number", 1)))
        for many in range(5):
            for sieves in itertools.permutations(some, many):
                ask = ask_of(ONE, sieves=sieves, telling=("rows", (PY, ("over", PY, ("less", PX, ("number", 2))))))
                self.assertEqual(plainly(self.TABLES, ask), Plain(self.TABLES, ask).answer())

    def test_faults_of_the_telling(self):
        by_x, by_less = ("over", PY, PX), ("over", PY, ("less", PX, ("number", 1)))
        self.assertEqual(self.plain([], ("rows", (PY, by_x, by_less))),
                         ([((7, 3, 7), [(2,)])], [((0,), ("tell", 1)), ((1,), ("tell", 2))]))
        self.assertEqual(self.plain([], ("rows", (by_x, by_x))),
                         ([((6, 6), [(1,)]), ((3, 3), [(2,)])], [((0,), ("tell", 0))]))
        # Of groups the keys, then the sums' parts.
        self.assertEqual(self.plain([], ("groups", (PY, by_less), (("sum", by_x), ("count", by_x)))),
                         ([((7, 7, 3, 1), [(2,)])], [((0,), ("tell", 2)), ((1,), ("tell", 1))]))
        self.assertEqual(self.plain([], ("groups", (), (("sum", PX), ("count", by_x)))),
                         ([((3, 2), [(1,), (2,)])], [((0,), ("tell", 1))]))

    def test_a_sieve_ahead_of_the_telling(self):
        self.assertEqual(self.plain([self.FAULT], ("rows", (("over", PY, PX),)))[1], [((0,), ("sieve", 0))])
        self.assertEqual(self.plain([("below", ("number", 0), PX)], ("rows", (("over", PY, PX),)))[1], [])

    def test_faults_stand_in_the_order_of_places(self):
        tables = tables_of(a=[(0, 1), (0, 2)], c=[(2, 0), (2, 1)])
        ask = ask_of(ONE, ("perhaps", "s", "c", (("x", "p", "y"),)), sieves=(("lacking", ("over", PX, PX)),))
        self.assertEqual(plainly(tables, ask),
                         ([], [((0, None), ("sieve", 0)), ((1, 0), ("sieve", 0)), ((1, 1), ("sieve", 0))]))

    def test_none_beside_a_fault(self):
        tables = tables_of(a=[(0, 1)], c=[])
        ask = ask_of(ONE, ("perhaps", "s", "c", ()), sieves=(("alike", SY, ("over", PY, PX)),))
        self.assertEqual(plainly(tables, ask), ([], [((0, None), ("sieve", 0))]))
        ask = ask_of(ONE, ("perhaps", "s", "c", ()), sieves=(("alike", PX, ("over", SY, PX)),))
        self.assertEqual(plainly(tables, ask), ([], []))


class TellingTest(unittest.TestCase):

    TABLES = tables_of(a=[(1, 3), (2, 1), (1, 2), (2, 4), (1, 3)])

    def plain(self, tables=TABLES, **more):
        ask = ask_of(ONE, **more)
        self.assertTrue(is_ask(ask))
        rows, faults = plainly(tables, ask)
        self.assertEqual(faults, [])
        return rows

    def test_rows(self):
        self.assertEqual(self.plain(), [((x,), [(at,)]) for at, x in enumerate((1, 2, 1, 2, 1))])

    def test_struck(self):
        self.assertEqual(self.plain(struck=True), [((1,), [(0,), (2,), (4,)]), ((2,), [(1,), (3,)])])
        self.assertEqual(self.plain(struck=True, telling=("rows", (PX, PY))),
                         [((1, 3), [(0,), (4,)]), ((2, 1), [(1,)]), ((1, 2), [(2,)]), ((2, 4), [(3,)])])

    def test_groups(self):
        sums = (("count", PY), ("sum", PY), ("least", PY))
        self.assertEqual(self.plain(telling=("groups", (PX,), sums)),
                         [((1, 3, 8, 2), [(0,), (2,), (4,)]), ((2, 2, 5, 1), [(1,), (3,)])])
        self.assertEqual(self.plain(telling=("groups", (), (("most", PY), ("sum", PX)))),
                         [((4, 7), [(0,), (1,), (2,), (3,), (4,)])])

    def test_groups_of_none_found_none(self):
        empty = tables_of(a=[])
        for keys in ((), (PX,)):
            self.assertEqual(self.plain(empty, telling=("groups", keys, (("count", PX),))), [])
            self.assertEqual(self.plain(telling=("groups", keys, (("count", PX),)), sieves=(("lacking", PX),)), [])

    def test_sorted_and_the_first(self):
        up, down = ((0, "up"),), ((0, "down"),)
        self.assertEqual([founds for _, founds in self.plain(order=up)], [[(0,)], [(2,)], [(4,)], [(1,)], [(3,)]])
        self.assertEqual([founds for _, founds in self.plain(order=down)], [[(1,)], [(3,)], [(0,)], [(2,)], [(4,)]])
        self.assertEqual([founds for _, founds in self.plain(order=down, first=3)], [[(1,)], [(3,)], [(0,)]])
        self.assertEqual([founds for _, founds in self.plain(first=2)], [[(0,)], [(1,)]])
        self.assertEqual(self.plain(first=60), self.plain())

    def test_sums_over_none(self):
        tables = tables_of(a=[(1, 0), (1, 1), (2, 9), (1, 2)], c=[(0, 4), (2, -6)])
        ask = ask_of(ONE, ("perhaps", "s", "c", (("x", "p", "y"),)),
                     telling=("groups", (PX,), (("count", SY), ("sum", SY), ("least", SY))))
        self.assertEqual(plainly(tables, ask)[0],
                         [((1, 2, -2, -6), [(0, 0), (1, None), (3, 1)]), ((2, 0, 0, None), [(2, None)])])
        ask = ask_of(ONE, ("perhaps", "s", "c", (("x", "p", "y"),)), telling=("groups", (SY,), (("most", SY),)),
                     order=((0, "down"),))
        self.assertEqual(plainly(tables, ask)[0],
                         [((4, 4), [(0, 0)]), ((-6, -6), [(3, 1)]), ((None, None), [(1, None), (2, None)])])

    def test_what_has_more_than_thirty_figures(self):
        great = 10 ** 30 - 1
        tables = tables_of(a=[(great, -great), (great, great)])
        square = ("times", PX, PY)
        self.assertEqual(self.plain(tables, telling=("groups", (), (("sum", PX), ("least", square), ("most", square)))),
                         [((2 * great, -great ** 2, great ** 2), [(0,), (1,)])])


class AskersTest(unittest.TestCase):

    ASK = ask_of(ONE, ("with", "q", "b", (("x", "p", "x"),)), struck=True)

    def test_what_is_told_is_the_askers_own(self):
        tables = SOME.twin()
        wanted = copy.deepcopy(plainly(tables, self.ASK))
        told = plainly(tables, self.ASK)
        self.assertEqual(told[0], [((1,), [(0, 0), (0, 1), (2, 0), (2, 1)]), ((2,), [(1, 3)])])
        told[0][0][1].clear()
        told[0].pop()
        told[1].append(1)
        combinations(tables, self.ASK).clear()
        founds(tables, self.ASK).clear()
        self.assertEqual(plainly(tables, self.ASK), wanted)
        self.assertTrue(tables == SOME)

    def test_kinds(self):
        told = plainly(SOME, self.ASK)
        self.assertIs(told.__class__, tuple)
        self.assertEqual([one.__class__ for one in told], [list, list])
        self.assertEqual([one.__class__ for one in told[0][0]], [tuple, list])
        self.assertIs(told[0][0][1][0].__class__, tuple)
        self.assertIs(combinations(SOME, self.ASK).__class__, list)
        self.assertIs(founds(SOME, self.ASK)[0].__class__, tuple)

    def test_moment_by_its_name_alone(self):
        for told in (combinations, founds, plainly):
            with self.assertRaises(TypeError):
                told(SOME, self.ASK, 3)
            self.assertEqual(told(tables=SOME, ask=self.ASK, moment=SOME.moment()), told(SOME, self.ASK))

    def test_elder_moments_stay(self):
        tables = SOME.twin()
        then = tables.moment()
        before = [told(tables, self.ASK) for told in (combinations, founds, plainly)]
        for deed in (("out", "a", 0), ("row", "b", (1, 1)), ("out", "b", 1), ("row", "a", (3, 3)),
                     ("table", "d", ("x",))):
            tables.do(deed)
            self.assertEqual([told(tables, self.ASK, moment=then) for told in (combinations, founds, plainly)], before)
        self.assertNotEqual(plainly(tables, self.ASK), before[2])


class DozensTest(unittest.TestCase):

    def test_against_all_choices_tried(self):
        chance = random.Random(20)
        seen = {"rows": 0, "faults": 0, "none": 0}
        for _ in range(1500):
            tables = Tables(some_tables(chance))
            ask = some_ask(chance)
            self.assertTrue(is_ask(ask))
            for moment in (None, chance.randrange(3, tables.moment() + 1)):
                plain = Plain(tables, ask, moment)
                self.assertEqual(combinations(tables, ask, moment=moment), plain.combinations())
                self.assertEqual(founds(tables, ask, moment=moment), plain.founds())
                rows, faults = plainly(tables, ask, moment=moment)
                self.assertEqual((rows, faults), plain.answer())
                seen["rows"] += len(rows) > 1
                seen["faults"] += len(faults) > 0
                seen["none"] += any(None in places for _, places_of in rows for places in places_of)
        # What is tried must be worth it.
        self.assertGreater(min(seen.values()), 150)

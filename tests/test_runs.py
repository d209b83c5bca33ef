import unittest

from helper import THINGS, refusal
from plansamid.counts import counts_of
from plansamid.errors import Done, NoAsk, NoRoom, NoRule, NotDone
from plansamid.plainly import plainly
from plansamid.plans import plans_of
from plansamid.runs import DOUBLE, Run
from plansamid.tables import Tables


def cell(alias, column):
    return ("cell", alias, column)


# p: 0 (1, 5), 1 (2, 6), 2 (1, 7); q: 0 (1, 0), 1 (2, 1), 2 (1, 2), 3 (3, 3)
TABLES = Tables([("table", "a", ("x", "y")), ("row", "a", (1, 5)), ("row", "a", (2, 6)), ("row", "a", (1, 7)),
                 ("table", "b", ("x", "z")), ("row", "b", (1, 0)), ("row", "b", (2, 1)), ("row", "b", (1, 2)),
                 ("row", "b", (3, 3)), ("table", "c", ("x",)), ("table", "d", ("x",)), ("row", "d", (4,))])
P = ("with", "p", "a", ())
Q = ("with", "q", "b", (("x", "p", "x"),))
YZ = ("rows", (cell("p", "y"), cell("q", "z")))
# Its plans: (0, 1) kept and walked, (1, 0) kept and walked; their guesses 14, 16, 16, 17.
JOINED = ((P, Q), (), YZ, (), None, False)
KEPT, WALKED, KEPT_TURNED, WALKED_TURNED = plans_of(JOINED)
ROWS = {(0, 0): ("row", (5, 0), (0, 0)), (0, 2): ("row", (5, 2), (0, 2)), (1, 1): ("row", (6, 1), (1, 1)),
        (2, 0): ("row", (7, 0), (2, 0)), (2, 2): ("row", (7, 2), (2, 2))}


def rows_at(*places):
    return sorted(ROWS[one] for one in places)


def ask_of(telling=YZ, sources=(P, Q), sieves=(), order=(), first=None, struck=False):
    return (sources, sieves, telling, order, first, struck)


def to_the_end(run):
    """What each turn tells until it is done."""
    told = []
    while not run.is_done():
        told.append(run.turn())
    return told


class MadeTest(unittest.TestCase):

    def test_what_is_no_ask(self):
        for thing in THINGS + [list(JOINED), JOINED[:5], JOINED + (1,), (JOINED,)]:
            error = refusal(Run, TABLES, thing)
            self.assertIs(error.__class__, NoAsk)
            self.assertIsNone(error.what)
            # Ahead of no rule.
            self.assertIs(refusal(Run, TABLES, thing, rule=None).__class__, NoAsk)

    def test_an_ask_that_is_not_right(self):
        for what, ask in (("e", ask_of(sources=(("with", "p", "e", ()), Q))),
                          (("q", "w"), ask_of(sources=(P, ("with", "q", "b", (("w", "p", "x"),))))),
                          (("p", "z"), ask_of(telling=("rows", (cell("p", "z"),))))):
            for rule in (DOUBLE, None, ("stay", 9)):
                error = refusal(Run, TABLES, ask, rule=rule)
                self.assertIs(error.__class__, NoAsk)
                self.assertEqual(error.what, what)
        error = refusal(Run, TABLES, JOINED, moment=4)
        self.assertEqual((error.__class__, error.what), (NoAsk, "b"))
        self.assertIsNone(refusal(Run, TABLES, JOINED, moment=5))

    def test_no_rule(self):
        for thing in THINGS + [["double"], ("double", 1), ("stay", 4), ("stay", -1), ("guess", 0), ("guess", 11),
                               ("rows", 0), ("rows", 61), ("stay", True), "double"]:
            self.assertIs(refusal(Run, TABLES, JOINED, rule=thing).__class__, NoRule)
        for rule in (DOUBLE, ("stay", 0), ("stay", 3), ("guess", 1), ("guess", 10), ("rows", 1), ("rows", 60)):
            self.assertEqual(Run(TABLES, JOINED, rule=rule).rule(), rule)

    def test_by_default(self):
        self.assertEqual(DOUBLE, ("double",))
        run = Run(TABLES, JOINED)
        self.assertIs(run.tables(), TABLES)
        self.assertEqual((run.ask(), run.rule(), run.moment()), (JOINED, ("double",), TABLES.moment()))
        self.assertEqual((run.rooms(), run.hand(), run.starts()), (20, 8, (0, 0)))
        self.assertEqual((run.looks(), run.steps(), run.slabs(), run.visits(), run.told()), (0, 0, [], [], []))
        self.assertEqual((run.now_plan(), len(run), repr(run), run.is_done()), (None, 0, "Run(0 told)", False))

    def test_arguments_by_name(self):
        run = Run(tables=TABLES, ask=JOINED, rule=("stay", 1), moment=9, counts={}, rooms=3, hand=2, starts=[1, 2],
                  watcher=None)
        self.assertEqual((run.rule(), run.moment(), run.rooms(), run.hand()), (("stay", 1), 9, 3, 2))
        self.assertEqual(run.starts(), (1, 2))
        self.assertRaises(TypeError, Run, TABLES, JOINED, DOUBLE)

    def test_starts(self):
        for starts in ((2, 3), [2, 3]):
            run = Run(TABLES, JOINED, rule=("stay", 0), starts=starts)
            told = to_the_end(run)
            self.assertEqual([sorted(rows) for rows in told],
                             [[], rows_at((2, 0), (2, 2)), rows_at((0, 0), (0, 2)), rows_at((1, 1))])
            self.assertEqual(run.starts(), (2, 3))
        handed = [2, 3]
        run = Run(TABLES, JOINED, starts=handed)
        handed[0] = 0
        self.assertEqual(run.starts(), (2, 3))
        none_of_c = (P, ("with", "q", "c", ()))
        run = Run(TABLES, ask_of(sources=none_of_c, telling=("rows", (cell("p", "x"),))), starts=(1, 0))
        self.assertEqual((run.is_done(), run.starts()), (True, (1, 0)))

    def test_counts_lead_the_guessed_order(self):
        # By no counts all tables have one row: walked plans are ahead.
        run = Run(TABLES, JOINED, counts={})
        self.assertEqual([visit_plan(run) for _ in range(4)], [WALKED, WALKED_TURNED, KEPT, KEPT_TURNED])
        run = Run(TABLES, JOINED)
        self.assertEqual([visit_plan(run) for _ in range(4)], [KEPT, WALKED, KEPT_TURNED, WALKED_TURNED])
        elder = counts_of(TABLES, moment=7)
        self.assertEqual(elder, {"a": (3, {"x": 2, "y": 3}), "b": (2, {"x": 2, "z": 2})})
        # 1 + 3 + 2 + 3 and 1 + 3 + 6; 1 + 2 + 3 + 4 and 1 + 2 + 6.
        run = Run(TABLES, JOINED, counts=elder)
        self.assertEqual([visit_plan(run) for _ in range(4)], [KEPT, WALKED_TURNED, WALKED, KEPT_TURNED])

    def test_counts_are_those_of_the_moment_and_copied(self):
        deeds = TABLES.deeds()
        tables = Tables(deeds)
        tables.do(("row", "b", (5, 5)))
        run, handed = Run(tables, JOINED, moment=len(deeds)), counts_of(TABLES)
        other = Run(tables, JOINED, counts=handed)
        handed["a"][1]["x"] = 1
        handed["b"] = (0, {})
        handed.clear()
        for one in (run, other):
            self.assertEqual([visit_plan(one) for _ in range(4)], [KEPT, WALKED, KEPT_TURNED, WALKED_TURNED])

    def test_the_tables_are_kept_themselves_and_the_moment_stays(self):
        tables = Tables(TABLES.deeds())
        run = Run(tables, JOINED, rule=("stay", 0))
        then = run.moment()
        run.turn()
        tables.do(("row", "a", (1, 9)))
        tables.do(("out", "b", 0))
        self.assertIs(run.tables(), tables)
        self.assertEqual(run.moment(), then)
        self.assertEqual([sorted(rows) for rows in to_the_end(run)],
                         [rows_at((0, 0), (0, 2)), rows_at((1, 1)), rows_at((2, 0), (2, 2))])
        self.assertEqual(run.answer(), plainly(tables, JOINED, moment=then))
        self.assertNotEqual(run.answer(), plainly(tables, JOINED))
        again = Run(tables, JOINED)
        to_the_end(again)
        self.assertEqual(again.answer(), plainly(tables, JOINED))


def visit_plan(run):
    """The plan of the visit that the next turn begins and ends."""
    run.turn()
    return run.visits()[-1][0]


class NoRowTest(unittest.TestCase):

    NONE_OF_C = (P, ("with", "q", "c", ()))

    def check(self, run, done):
        self.assertEqual((run.looks(), run.slabs(), run.visits(), run.told(), len(run)), (0, [], [], [], 0))
        self.assertIs(run.is_done(), done)
        self.assertIsNone(run.now_plan())

    def test_one_that_is_not_sorted_is_done_then(self):
        for sources in (self.NONE_OF_C, (("with", "p", "c", ()),), (("with", "p", "c", ()), ("with", "q", "a", ()))):
            for struck in (False, True):
                run = Run(TABLES, ask_of(("rows", (cell("p", "x"),)), sources, struck=struck))
                self.check(run, True)
                self.assertIs(refusal(run.turn).__class__, Done)
                self.assertEqual(run.answer(), ([], []))

    def test_a_sorted_one_has_one_turn(self):
        for more in ({"order": ((0, "up"),)}, {"first": 3}, {"order": ((0, "down"),), "struck": True},
                     {"telling": ("groups", (), (("count", cell("p", "x")),))}):
            run = Run(TABLES, ask_of(**{"telling": ("rows", (cell("p", "x"),)), "sources": self.NONE_OF_C, **more}))
            self.check(run, False)
            self.assertIs(refusal(run.answer).__class__, NotDone)
            self.assertEqual(run.turn(), [])
            self.check(run, True)
            self.assertEqual((run.answer(), run.steps()), (([], []), 0))
            self.assertIs(refusal(run.turn).__class__, Done)

    def test_other_sources_without_a_row_are_nothing_special(self):
        for way in ("none", "perhaps"):
            run = Run(TABLES, ask_of(("rows", (cell("p", "x"),)), (P, (way, "s", "c", ()))), rule=("stay", 0))
            self.assertEqual(len(to_the_end(run)), 4)
            self.assertEqual((len(run), run.looks()), (3, 4))


class TurnTest(unittest.TestCase):

    def go(self, run, *turns):
        """Each turn is (what it tells, looks, slabs, the open visit's plan)."""
        visits = []
        for told, looks, slabs, plan in turns:
            self.assertIs(run.is_done(), False)
            self.assertIs(refusal(run.answer).__class__, NotDone)
            before = run.told()
            fresh = run.turn()
            self.assertEqual(sorted(fresh), told)
            self.assertEqual((run.looks(), run.slabs(), run.now_plan()), (looks, slabs, plan))
            self.assertEqual(run.told(), before + fresh)
            many = len([one for one in run.told() if one[0] == "row"])
            self.assertEqual((len(run), repr(run)), (many, f"Run({many} told)"))
            self.assertEqual(sum(visit[2] for visit in run.visits()), looks)
            visits.append(run.visits())
        self.assertIs(run.is_done(), True)
        self.assertIs(refusal(run.turn).__class__, Done)
        self.assertEqual(run.answer(), plainly(run.tables(), run.ask(), moment=run.moment()))
        return visits

    def test_stay_kept(self):
        visits = self.go(Run(TABLES, JOINED, rule=("stay", 0)),
                         ([], 5, [], KEPT), (rows_at((0, 0), (0, 2)), 8, [(0, 1)], KEPT),
                         (rows_at((1, 1)), 10, [(0, 2)], KEPT), (rows_at((2, 0), (2, 2)), 13, [(0, 3)], None))
        self.assertEqual(visits, [[(KEPT, None, 5, 0)], [(KEPT, None, 8, 1)], [(KEPT, None, 10, 2)],
                                  [(KEPT, None, 13, 3)]])

    def test_stay_walked(self):
        self.go(Run(TABLES, JOINED, rule=("stay", 3)),
                ([], 1, [], WALKED_TURNED), (rows_at((0, 0), (2, 0)), 5, [(1, 1)], WALKED_TURNED),
                (rows_at((1, 1)), 9, [(1, 2)], WALKED_TURNED), (rows_at((0, 2), (2, 2)), 13, [(1, 3)], WALKED_TURNED),
                ([], 17, [(1, 4)], None))

    def test_double(self):
        run = Run(TABLES, JOINED)
        # Round 0: each takes its one look.
        turns = [([], looks, [], None) for looks in (1, 2, 3, 4)]
        # Round 1: 5 are more than 2; 1, then 5 more; 4 are more than 2; 1, then 4 more.
        turns += [([], 6, [], None), ([], 7, [], WALKED), ([], 8, [], None), ([], 10, [], None),
                  ([], 11, [], WALKED_TURNED), ([], 12, [], None)]
        # Round 2: 5 are more than 4; 1, then 5 more; 4 are all of the budget; 1, then 4 more.
        turns += [([], 16, [], None), ([], 17, [], WALKED), ([], 20, [], None), ([], 24, [], None),
                  ([], 25, [], WALKED_TURNED), ([], 28, [], None)]
        # Round 3: 5, and 3 for row 0 of p.
        slabs = [(0, 1)]
        turns += [([], 33, [], KEPT), (rows_at((0, 0), (0, 2)), 36, slabs, None)]
        # 1, and 5 for row 1 of p, then 5 are more than 2.
        turns += [([], 37, slabs, WALKED), (rows_at((1, 1)), 42, slabs + [(0, 1)], WALKED),
                  ([], 44, slabs + [(0, 1)], None)]
        # 4, and 3 for row 0 of q: one of the two of p is done. Then 2 are more than 1.
        slabs = [(0, 1), (0, 1), (1, 1)]
        turns += [([], 48, slabs[:2], KEPT_TURNED), (rows_at((2, 0)), 51, slabs, KEPT_TURNED), ([], 52, slabs, None)]
        # 1, and 2 for each row of q: at it, and at the one of p that is left.
        turns += [([], 53, slabs, WALKED_TURNED), ([], 55, slabs + [(1, 1)], WALKED_TURNED),
                  (rows_at((2, 2)), 57, slabs + [(1, 2)], WALKED_TURNED), ([], 59, slabs + [(1, 3)], None)]
        visits = self.go(run, *turns)[-1]
        plans = [KEPT, WALKED, KEPT_TURNED, WALKED_TURNED]
        self.assertEqual(visits, [(plan, budget, budget, 0) for budget in (1, 2, 4) for plan in plans] +
                         [(KEPT, 8, 8, 1), (WALKED, 8, 8, 1), (KEPT_TURNED, 8, 8, 1), (WALKED_TURNED, 8, 7, 3)])

    def test_guess(self):
        run = Run(TABLES, JOINED, rule=("guess", 1))
        visits = self.go(run, ([], 5, [], KEPT), (rows_at((0, 0), (0, 2)), 8, [(0, 1)], KEPT),
                         (rows_at((1, 1)), 10, [(0, 2)], KEPT), (rows_at((2, 0), (2, 2)), 13, [(0, 3)], None))
        self.assertEqual(visits[-1], [(KEPT, 14, 13, 3)])
        run = Run(TABLES, JOINED, rule=("guess", 2), counts={})
        # The guess of a walked plan is 3, by no counts.
        visits = self.go(run, ([], 1, [], WALKED), (rows_at((0, 0), (0, 2)), 6, [(0, 1)], None),
                         ([], 7, [(0, 1)], WALKED_TURNED), (rows_at((2, 0)), 10, [(0, 1), (1, 1)], WALKED_TURNED),
                         ([], 12, [(0, 1), (1, 1)], None), ([], 17, [(0, 1), (1, 1)], KEPT),
                         (rows_at((1, 1)), 19, [(0, 1), (1, 1), (0, 1)], KEPT),
                         ([], 20, [(0, 1), (1, 1), (0, 1)], None),
                         ([], 24, [(0, 1), (1, 1), (0, 1)], KEPT_TURNED),
                         ([], 26, [(0, 1), (1, 1), (0, 1), (1, 1)], KEPT_TURNED),
                         ([], 28, [(0, 1), (1, 1), (0, 1), (1, 1)], None),
                         ([], 29, [(0, 1), (1, 1), (0, 1), (1, 1)], WALKED),
                         (rows_at((2, 2)), 32, [(0, 1), (1, 1), (0, 1), (1, 1), (0, 1)], None))
        self.assertEqual(visits[-1], [(WALKED, 6, 6, 1), (WALKED_TURNED, 6, 6, 1), (KEPT, 8, 8, 1),
                                      (KEPT_TURNED, 8, 8, 1), (WALKED, 12, 4, 1)])

    def test_rows(self):
        run = Run(TABLES, JOINED, rule=("rows", 2))
        visits = self.go(run, ([], 5, [], KEPT), (rows_at((0, 0), (0, 2)), 8, [(0, 1)], KEPT),
                         (rows_at((1, 1)), 10, [(0, 2)], None), ([], 11, [(0, 2)], WALKED),
                         (rows_at((2, 0), (2, 2)), 16, [(0, 2), (0, 1)], None))
        self.assertEqual(visits[-1], [(KEPT, None, 10, 2), (WALKED, None, 6, 1)])
        one = Run(TABLES, JOINED, rule=("rows", 1))
        to_the_end(one)
        # Row 0 of p; row 1 of p; row 0, then row 1 of q; the last of p is met with each of q by then.
        self.assertEqual(one.slabs(), [(0, 1), (0, 1), (1, 1), (1, 1), (0, 1)])

    def test_the_last_row_ends_the_visit_whatever_its_budget_and_rows(self):
        for rule in (("rows", 3), ("rows", 4), ("stay", 0), ("guess", 1), ("guess", 10)):
            run = Run(TABLES, JOINED, rule=rule)
            self.assertEqual(len(to_the_end(run)), 4)
            self.assertIsNone(run.now_plan())

    def test_faults_are_told_at_once(self):
        divided = ("over", ("number", 6), cell("q", "z"))
        for more in ({}, {"order": ((0, "up"),)}, {"first": 1}):
            run = Run(TABLES, ask_of(("rows", (divided,)), **more), rule=("stay", 0))
            told = to_the_end(run)
            faults = [[one for one in turn if one[0] == "fault"] for turn in told]
            self.assertEqual(faults[:4], [[], [("fault", ("tell", 0), (0, 0))], [], [("fault", ("tell", 0), (2, 0))]])
            self.assertEqual(run.answer()[1], [((0, 0), ("tell", 0)), ((2, 0), ("tell", 0))])
        run = Run(TABLES, ask_of(sieves=(("below", divided, ("number", 5)),)), rule=("stay", 2))
        self.assertEqual([sorted(turn) for turn in to_the_end(run)],
                         [[], [("fault", ("sieve", 0), (0, 0)), ("fault", ("sieve", 0), (2, 0))], [],
                          rows_at((0, 2), (2, 2)), []])
        self.assertEqual((len(run), repr(run)), (2, "Run(2 told)"))

    def test_struck_rows_are_told_once(self):
        run = Run(TABLES, ask_of(("rows", (cell("p", "x"),)), struck=True), rule=("stay", 0))
        told = to_the_end(run)
        self.assertEqual([[one[:2] for one in turn] for turn in told], [[], [("row", (1,))], [("row", (2,))], []])
        self.assertIn(told[1][0][2], [(0, 0), (0, 2)])
        self.assertEqual(told[2], [("row", (2,), (1, 1))])
        self.assertEqual(run.answer(), ([((1,), [(0, 0), (0, 2), (2, 0), (2, 2)]), ((2,), [(1, 1)])], []))
        self.assertEqual((len(run), run.steps()), (2, 0))


class EndingTest(unittest.TestCase):

    DOWN = ((0, "down"), (1, "up"))

    def go(self, ask, hand, steps, rows):
        """By the numbers of steps behind each turn; the last one tells the rows."""
        run = Run(TABLES, ask, rule=("stay", 0), hand=hand)
        told = []
        for many in steps:
            self.assertIs(refusal(run.answer).__class__, NotDone)
            told.append(run.turn())
            self.assertEqual(run.steps(), many)
        self.assertEqual(told, [[]] * (len(steps) - 1) + [rows])
        self.assertIs(run.is_done(), True)
        self.assertIs(refusal(run.turn).__class__, Done)
        self.assertEqual(run.answer(), plainly(TABLES, ask))
        self.assertEqual((run.told(), len(run)), (rows, len(rows)))

    def test_sorted_rows(self):
        rows = [ROWS[at] for at in ((2, 0), (2, 2), (1, 1), (0, 0), (0, 2))]
        ask = ask_of(order=self.DOWN)
        # 2, 1, 2 are found. By eights: one lot, told in one turn more.
        self.go(ask, 8, [0, 0, 0, 5, 5], rows)
        self.go(ask, 5, [0, 0, 0, 5, 5], rows)
        # By fours one lot of 4, one of 1, merged at once. By threes likewise.
        self.go(ask, 4, [0, 0, 0, 5, 10, 10], rows)
        self.go(ask, 3, [0, 0, 0, 5, 10, 10], rows)
        # By twos lots of 2, 2, 1: two of them, then all.
        self.go(ask, 2, [0, 0, 2, 5, 9, 14, 14], rows)
        # By ones: five of one, then 2 1 1 1, 1 2 2 .. by twos.
        self.go(ask, 1, [0, 1, 2, 5, 7, 9, 12, 17, 17], rows)

    def test_first(self):
        rows = [ROWS[at] for at in ((0, 0), (0, 2), (1, 1), (2, 0), (2, 2))]
        for first in (1, 3, 5, 60):
            self.go(ask_of(first=first), 8, [0, 0, 0, 5, 5], rows[:first])
        self.go(ask_of(order=self.DOWN, first=2), 2, [0, 0, 2, 5, 9, 14, 14], [ROWS[(2, 0)], ROWS[(2, 2)]])

    def test_struck(self):
        told = ("rows", (cell("p", "x"),))
        one, two = ("row", (1,), (0, 0)), ("row", (2,), (1, 1))
        # Each of the five goes into the pile.
        self.go(ask_of(told, order=((0, "down"),), struck=True), 8, [0, 0, 0, 5, 5], [two, one])
        self.go(ask_of(told, order=((0, "up"),), struck=True), 2, [0, 0, 2, 5, 9, 14, 14], [one, two])
        self.go(ask_of(told, first=1, struck=True), 4, [0, 0, 0, 5, 10, 10], [one])
        self.go(ask_of(told, order=((0, "down"),), first=2, struck=True), 8, [0, 0, 0, 5, 5], [two, one])

    def test_led_the_other_way_about_the_places_are_those_of_the_first(self):
        told = ("rows", (cell("p", "x"),))
        run = Run(TABLES, ask_of(told, order=((0, "down"),), struck=True), rule=("stay", 2), starts=(2, 2))
        self.assertEqual(to_the_end(run)[-1], [("row", (2,), (1, 1)), ("row", (1,), (0, 0))])
        groups = ("groups", (cell("p", "x"),), (("sum", cell("q", "z")),))
        run = Run(TABLES, ask_of(groups), rule=("stay", 2), starts=(2, 2))
        self.assertEqual(to_the_end(run)[-1], [("row", (1, 4), (0, 0)), ("row", (2, 1), (1, 1))])

    def test_groups_have_no_pile(self):
        groups = ("groups", (cell("p", "x"),), (("sum", cell("q", "z")), ("count", cell("q", "z"))))
        rows = [("row", (1, 4, 4), (0, 0)), ("row", (2, 1, 1), (1, 1))]
        for hand in (1, 8):
            self.go(ask_of(groups), hand, [0] * 5, rows)
            self.go(ask_of(groups, order=((1, "up"),)), hand, [0] * 5, rows[::-1])
            self.go(ask_of(groups, first=1), hand, [0] * 5, rows[:1])
        self.go(ask_of(("groups", (), (("most", cell("q", "z")),))), 8, [0] * 5, [("row", (2,), (0, 0))])

    def test_of_nothing_found(self):
        never = (("lacking", ("number", 1)),)
        for ask in (ask_of(order=self.DOWN, sieves=never), ask_of(first=1, sieves=never),
                    ask_of(("groups", (), (("count", cell("p", "x")),)), sieves=never)):
            self.go(ask, 1, [0] * 5, [])

    def test_no_worth_stands_ahead_of_all_numbers(self):
        perhaps = (P, ("perhaps", "s", "b", (("z", "p", "x"),)))
        told = ("rows", (cell("s", "x"), ("over", cell("s", "x"), ("number", 2))))
        tables = Tables(TABLES.deeds() + [("row", "a", (9, 9)), ("row", "a", (-5, 0))])
        # Of p's x 1, 2, 1 there is s with x 2, 1, 2; of 9 and -5 none.
        for order, first in ((("up",), [3, 4, 1, 0, 2]), (("down",), [0, 2, 1, 3, 4])):
            run = Run(tables, ask_of(told, sources=perhaps, order=((0,) + order,)), hand=2)
            self.assertEqual([row[2][0] for row in to_the_end(run)[-1]], first)
            self.assertEqual(run.answer(), plainly(tables, run.ask()))

    def test_the_pile_is_ended_in_the_turn_in_which_all_is_met(self):
        run = Run(TABLES, ask_of(order=self.DOWN), rule=("stay", 0), hand=2)
        for _ in range(3):
            run.turn()
        run.call_back_hand(1)
        # One row was in the hand: it is laid out where the hand has more alone.
        self.assertEqual(run.steps(), 2)
        run.turn()
        self.assertEqual((run.steps(), run.now_plan(), run.is_done()), (5, None, False))
        run.lend_hand(3)
        # Lots of 2, 1, 1, 1: all at once.
        self.assertEqual((run.turn(), run.steps()), ([], 10))
        self.assertEqual(len(run.turn()), 5)


class LoanTest(unittest.TestCase):

    CHAIN = ask_of(sources=(P, Q, ("with", "r", "b", (("x", "q", "x"),)), ("none", "s", "d", (("x", "p", "x"),))))

    def chain(self, rooms=20):
        """It keeps q (4 rows), r (4 rows), s (1 row), in this order, as far as there are rooms."""
        run = Run(TABLES, self.CHAIN, rule=("stay", 0), rooms=rooms)
        run.turn()
        return run

    def looks_of_a_row(self, run):
        before = run.looks()
        run.turn()
        return run.looks() - before

    # Kept: 2 of q, for each 2 of r, for each of four 0 of s. Walked: 4, for each 4, for each 1.
    ALL, NOT_S, NOT_R_S, NONE = 1 + 2 + 2 * 2, 1 + 2 + 2 * 2 + 4, 1 + 2 + 2 * 4 + 4, 1 + 4 + 2 * 4 + 4

    def test_called_back_amid_a_visit_the_last_kept_first(self):
        wanted = [(0, self.ALL), (11, self.ALL), (12, self.NOT_S), (13, self.NOT_R_S), (16, self.NOT_R_S),
                  (17, self.NONE), (20, self.NONE)]
        for many, looks in wanted:
            run = self.chain()
            self.assertEqual(run.looks(), 10)
            self.assertIsNone(run.call_back(many))
            self.assertEqual((run.rooms(), run.looks()), (20 - many, 10))
            self.assertEqual(self.looks_of_a_row(run), looks, many)

    def test_called_back_piece_by_piece(self):
        run = self.chain(rooms=9)
        for many in (1, 0, 0):
            run.call_back(many)
        self.assertEqual(self.looks_of_a_row(run), self.NOT_S)
        run.turn()
        run.call_back(n=8)
        # Of row 2 of p as of row 0.
        self.assertEqual(self.looks_of_a_row(run), self.NONE)

    def test_lent_amid_a_visit_counts_from_the_next_on(self):
        run = self.chain(rooms=4)
        self.assertEqual(run.looks(), 5)
        self.assertIsNone(run.lend(5))
        self.assertEqual(run.rooms(), 9)
        self.assertEqual(self.looks_of_a_row(run), self.NOT_R_S)
        # Back to what it keeps: it stays kept.
        run.call_back(5)
        run.turn()
        self.assertEqual(self.looks_of_a_row(run), self.NOT_R_S)

    def test_what_was_called_back_stays_walked_in_the_visit(self):
        run = self.chain(rooms=9)
        run.call_back(9)
        run.lend(9)
        self.assertEqual(self.looks_of_a_row(run), self.NONE)

    def test_the_next_visit_goes_by_the_rooms_of_then(self):
        run = Run(TABLES, JOINED, rule=("rows", 1), rooms=3)
        run.turn()
        # 4 rows have no room: q is walked.
        self.assertEqual((run.looks(), self.looks_of_a_row(run)), (1, 5))
        run.lend(1)
        run.turn()
        run.turn()
        run.turn()
        self.assertEqual(run.visits()[2], (KEPT_TURNED, None, 4, 0))
        run.call_back(4)
        self.assertEqual(self.looks_of_a_row(run), 2)
        run.turn()
        run.turn()
        run.turn()
        # Behind each plan's visit of one row KEPT comes again, without rooms.
        self.assertEqual(run.visits()[4][:3], (KEPT, None, 1))

    def test_a_closed_visit_stays_as_it_was(self):
        run = Run(TABLES, JOINED)
        run.turn()
        self.assertEqual((run.now_plan(), run.visits()), (None, [(KEPT, 1, 1, 0)]))
        run.call_back(20)
        self.assertEqual(run.visits(), [(KEPT, 1, 1, 0)])

    def test_no_room_where_there_are_fewer(self):
        for rooms in (0, 3, 20):
            run = Run(TABLES, JOINED, rule=("stay", 0), rooms=rooms)
            for _ in range(2):
                for many in (rooms + 1, 10 ** 30):
                    self.assertIs(refusal(run.call_back, many).__class__, NoRoom)
                    self.assertEqual(run.rooms(), rooms)
                run.turn()
            self.assertEqual(run.looks(), 8 if rooms == 20 else 6)
            run.call_back(rooms)
            self.assertEqual(run.rooms(), 0)

    def test_hands(self):
        for hand in (1, 2, 8):
            for ask in (JOINED, ask_of(first=3), ask_of(("groups", (), (("count", cell("p", "x")),)))):
                run = Run(TABLES, ask, hand=hand)
                while True:
                    self.assertIs(refusal(run.call_back_hand, hand).__class__, NoRoom)
                    self.assertIs(refusal(run.call_back_hand, n=10 ** 30).__class__, NoRoom)
                    self.assertEqual(run.hand(), hand)
                    self.assertIsNone(run.call_back_hand(hand - 1))
                    self.assertEqual(run.hand(), 1)
                    self.assertIsNone(run.lend_hand(n=hand - 1))
                    self.assertEqual(run.hand(), hand)
                    if run.is_done():
                        break
                    run.turn()
                self.assertEqual(run.answer(), plainly(TABLES, ask))

    def test_behind_the_end(self):
        run = Run(TABLES, JOINED, rule=("stay", 0))
        to_the_end(run)
        run.lend(7)
        run.call_back(26)
        run.lend_hand(1)
        run.call_back_hand(8)
        self.assertEqual((run.rooms(), run.hand(), run.looks()), (1, 1, 13))

    def test_a_hand_called_back_lays_out_what_is_in_it(self):
        run = Run(TABLES, ask_of(first=9), rule=("stay", 0))
        run.turn()
        run.turn()
        self.assertEqual(run.steps(), 0)
        run.call_back_hand(6)
        self.assertEqual(run.steps(), 0)
        run.call_back_hand(1)
        self.assertEqual(run.steps(), 2)


class AskersOwnTest(unittest.TestCase):

    def test_what_is_told_is_the_askers_own(self):
        ask = ask_of(("rows", (("over", cell("q", "z"), cell("q", "z")),)))
        run, other = Run(TABLES, ask), Run(TABLES, ask)
        while not other.is_done():
            told = other.turn()
            self.assertEqual(run.turn(), told)
            told.clear()
            for lines in (run.told(), run.slabs(), run.visits()):
                self.assertIs(lines.__class__, list)
                lines.append(("row", (0,), (0, 0)))
                lines.clear()
            self.assertEqual((run.told(), run.slabs(), run.visits(), run.looks(), len(run)),
                             (other.told(), other.slabs(), other.visits(), other.looks(), len(other)))
        wanted = plainly(TABLES, ask)
        self.assertEqual(run.answer(), wanted)
        rows, faults = run.answer()
        rows[0][1].clear()
        rows.clear()
        faults.clear()
        self.assertEqual(run.answer(), wanted)

import random
import unittest

from helper import THINGS, refusal, some_ask, some_deed, some_rule, some_tables, state, to_the_end
from plansamid.errors import Busy, Done, NoAsk, NoStand, Unlike
from plansamid.hindsight import hindsight
from plansamid.plainly import plainly
from plansamid.runs import Run
from plansamid.stands import stand_of, taken_up
from plansamid.tables import Tables


def cell(alias, column):
    return ("cell", alias, column)


DEEDS = [("table", "a", ("x", "y")), ("row", "a", (1, 5)), ("row", "a", (2, 6)), ("row", "a", (1, 7)),
         ("table", "b", ("x", "z")), ("row", "b", (1, 0)), ("row", "b", (2, 1)), ("row", "b", (1, 2)),
         ("table", "c", ("x",)), ("row", "c", (4,)), ("out", "c", 0)]
TABLES = Tables(DEEDS)
P = ("with", "p", "a", ())
Q = ("with", "q", "b", (("x", "p", "x"),))
YZ = ("rows", (cell("p", "y"), ("over", ("number", 6), cell("q", "z"))))
JOINED = ((P, Q), (), YZ, (), None, False)
ASKS = [
    JOINED,
    JOINED[:3] + (((0, "down"), (1, "up")), None, False),
    JOINED[:3] + ((), 2, False),
    ((P, Q), (), ("rows", (cell("p", "x"),)), (), None, True),
    ((P, Q), (), ("rows", (cell("p", "x"),)), ((0, "down"),), 1, True),
    ((P, Q), (("below", ("over", ("number", 6), cell("q", "z")), ("number", 5)),), YZ, (), None, False),
    ((P, Q), (), ("groups", (cell("p", "x"),), (("sum", cell("q", "z")), ("count", cell("p", "y")))), (), None, False),
    ((P, Q, ("perhaps", "s", "b", (("z", "p", "x"),)), ("none", "t", "c", (("x", "q", "z"),))), (),
     ("rows", (cell("s", "x"),)), ((0, "up"),), None, False),
    ((P, ("with", "q", "c", ())), (), ("rows", (cell("p", "x"),)), (), None, False),
    ((P, ("with", "q", "c", ())), (), ("rows", (cell("p", "x"),)), (), 3, False),
]
RULES = [("double",), ("stay", 0), ("guess", 1), ("rows", 1)]
PLAIN = (tuple, list, dict, str, int, bool, type(None))


def of_plain_kinds(thing):
    if thing.__class__ in (tuple, list):
        return all(of_plain_kinds(one) for one in thing)
    if thing.__class__ is dict:
        return all(of_plain_kinds(one) for pair in thing.items() for one in pair)
    return thing.__class__ in PLAIN


def bent(thing):
    """The same things, once with each kind of what [31] names in the place of the whole."""
    few = (None, True, False, (), "", "a", "texts")
    return [thing[:many] for many in range(len(thing))] + [(one,) for one in few] + \
        [(one, other) for one in few for other in few] + [(one, one, other) for one in few for other in few]


class GoneOnTest(unittest.TestCase):

    def each_run(self):
        for ask in ASKS:
            for rule in RULES:
                for more in ({}, {"rooms": 2, "hand": 1}, {"starts": (2, 0)}, {"counts": {"a": (9, {"x": 4})}},
                             {"moment": 11, "counts": {}}):
                    if rule[0] != "stay" or len(ask[0]) > 1:
                        yield ask, {"rule": rule, **more}

    def test_stopped_ahead_of_each_turn(self):
        for ask, more in self.each_run():
            run, other = Run(TABLES, ask, **more), Run(TABLES, ask, **more)
            while True:
                stand = stand_of(other)
                self.assertIs(stand.__class__, tuple)
                self.assertTrue(of_plain_kinds(stand))
                self.assertEqual(stand_of(other), stand)
                other = taken_up(TABLES, stand)
                self.assertEqual(state(other), state(run))
                self.assertEqual((other.ask(), other.rule()), (run.ask(), run.rule()))
                self.assertIs(other.tables(), TABLES)
                if run.is_done():
                    break
                self.assertEqual(other.turn(), run.turn())
            self.assertIs(refusal(other.turn).__class__, Done)
            self.assertEqual(other.answer(), plainly(TABLES, ask))
            self.assertEqual(hindsight(other), hindsight(run))

    def test_gone_on_to_the_end_from_each_turn(self):
        for ask in ASKS:
            for rule in RULES:
                run = Run(TABLES, ask, rule=rule, hand=2)
                stands, told = [stand_of(run)], []
                while not run.is_done():
                    told.append(run.turn())
                    stands.append(stand_of(run))
                for ahead, stand in enumerate(stands):
                    other = taken_up(TABLES, stand)
                    turns = []
                    while not other.is_done():
                        turns.append(other.turn())
                    self.assertEqual(turns, told[ahead:])
                    self.assertEqual(state(other), state(run))

    def test_with_loans_by_chance_and_on_tables_that_went_on(self):
        for seed in range(120):
            with self.subTest(seed=seed):
                chance = random.Random(seed)
                tables, ask = Tables(some_tables(chance)), some_ask(chance)
                more = {"rule": some_rule(chance, ask), "rooms": chance.randrange(12), "hand": chance.randrange(1, 5)}
                run, other = Run(tables, ask, **more), Run(tables, ask, **more)
                while not run.is_done():
                    if chance.randrange(2):
                        stand = stand_of(other)
                        tables = tables.twin()
                        some_deed(chance, tables)
                        other = taken_up(tables, stand)
                    self.lend_or_call_back(chance, run, other)
                    self.assertEqual(other.turn(), run.turn())
                    self.assertEqual(state(other), state(run))

    def lend_or_call_back(self, chance, *runs):
        many = chance.randrange(8)
        deed = chance.choice(("lend", "call_back", "lend_hand", "call_back_hand"))
        refused = [refusal(getattr(run, deed), many).__class__ for run in runs]
        self.assertEqual(refused[0], refused[1])

    def test_the_stopped_run_and_the_one_taken_up_go_on_by_themselves(self):
        for ask in ASKS:
            run = Run(TABLES, ask, rule=("rows", 1))
            for _ in range(2):
                if not run.is_done():
                    run.turn()
            stand, before = stand_of(run), state(run)
            first, second = taken_up(TABLES, stand), taken_up(TABLES, stand)
            first.lend(7)
            first.lend_hand(7)
            to_the_end(first)
            self.assertEqual((state(run), state(second)), (before, before))
            to_the_end(run)
            self.assertEqual((state(second), stand_of(second)), (before, stand))

    def test_loans_ahead_and_an_open_visit_are_kept(self):
        run = Run(TABLES, JOINED, rule=("stay", 0))
        run.turn()
        run.call_back(18)
        run.lend(5)
        run.lend_hand(3)
        run.call_back_hand(2)
        other = taken_up(TABLES, stand_of(run))
        self.assertEqual((other.rooms(), other.hand(), other.now_plan()), (7, 9, ((0, 1), "kept")))
        # It was called back to two rooms: b of three rows is walked for the whole visit.
        run.turn()
        other.turn()
        self.assertEqual((other.looks(), state(other)), (4 + 1 + 3, state(run)))

    def test_counts_are_those_of_the_run(self):
        # By these all plans are guessed alike, by none the walked ones are ahead.
        for counts in ({}, {"a": (0, {}), "b": (0, {})}, {"a": (10 ** 80, {"x": 10 ** 79}), "zz": (3, {})}):
            run = Run(TABLES, JOINED, counts=counts, rule=("guess", 1))
            run.turn()
            other = taken_up(TABLES, stand_of(run))
            self.assertEqual(state(to_the_end(other)), state(to_the_end(run)))
            self.assertEqual([visit[:2] for visit in other.visits()], [visit[:2] for visit in run.visits()])

    def test_it_is_watched_from_then_on(self):
        run = Run(TABLES, JOINED, rule=("stay", 0))
        ahead = run.turn() + run.turn()
        heard = []
        other = taken_up(TABLES, stand_of(run), watcher=heard.append)
        self.assertEqual(heard, [])
        turns = []
        while not other.is_done():
            turns.append(other.turn())
        self.assertEqual(heard, turns)
        self.assertEqual(other.told(), ahead + [one for turn in turns for one in turn])
        # Not watched where none is told, though the stopped one was.
        watched = Run(TABLES, JOINED, watcher=heard.append)
        heard.clear()
        taken_up(TABLES, stand_of(watched)).turn()
        self.assertEqual(heard, [])

    def test_arguments_by_name(self):
        run = Run(TABLES, JOINED)
        self.assertEqual(state(taken_up(tables=TABLES, stand=stand_of(run=run), watcher=None)), state(run))
        self.assertRaises(TypeError, taken_up, TABLES, stand_of(run), None)


class TablesTest(unittest.TestCase):

    def stand(self):
        run = Run(TABLES, JOINED, rule=("rows", 1))
        for _ in range(2):
            run.turn()
        return stand_of(run)

    def check_gone_on(self, tables, stand):
        wanted = to_the_end(taken_up(TABLES, stand))
        run = taken_up(tables, stand)
        self.assertIs(run.tables(), tables)
        self.assertEqual(state(to_the_end(run)), state(wanted))

    def test_tables_that_went_on(self):
        tables, stand = Tables(DEEDS), self.stand()
        for deed in (("row", "a", (1, 1)), ("out", "b", 0), ("out", "a", 1), ("table", "d", ("x",))):
            tables.do(deed)
            self.check_gone_on(tables, stand)

    def test_tables_that_came_to_the_same_rows_another_way(self):
        stand = self.stand()
        # Other tables first, and c with other columns and rows: the ask doesn't name it.
        b, a = DEEDS[4:8], DEEDS[:4]
        self.check_gone_on(Tables(b + a + [("table", "c", ("y", "x")), ("row", "c", (1, 2)), ("row", "c", (1, 2))]),
                           stand)
        # A row of b that came and went, in the place of c.
        self.check_gone_on(Tables(a + b + [("row", "b", (9, 9)), ("out", "b", 3), ("table", "e", ("x",))]), stand)

    def test_unlike_of_a_later_moment(self):
        stand = self.stand()
        for many in range(len(DEEDS)):
            # Ahead of what the tables lack.
            self.assertIs(refusal(taken_up, Tables(DEEDS[:many]), stand).__class__, Unlike)
        self.assertIs(refusal(taken_up, Tables(), stand).__class__, Unlike)

    def test_no_ask_where_they_lack_something(self):
        stand = self.stand()
        fill = [("row", "c", (1,))] * 20
        for deeds, what in (([("table", "b", ("x", "z"))], "a"), ([("table", "a", ("x", "y"))], "b"),
                            ([("table", "a", ("x", "y")), ("table", "b", ("z", "y"))], ("q", "x")),
                            # Ahead of other columns.
                            ([("table", "a", ("x", "z")), ("table", "b", ("x", "z", "y"))], ("p", "y"))):
            error = refusal(taken_up, Tables([("table", "c", ("x",))] + deeds + fill), stand)
            self.assertEqual((error.__class__, getattr(error, "what", None)), (NoAsk, what))
        # It came behind the moment.
        late = DEEDS[:4] + [("table", "c", ("x",))] + fill + DEEDS[4:8]
        error = refusal(taken_up, Tables(late), stand)
        self.assertEqual((error.__class__, getattr(error, "what", None)), (NoAsk, "b"))

    def test_unlike_of_other_columns(self):
        stand = self.stand()
        for old, new in ((0, ("table", "a", ("y", "x"))), (4, ("table", "b", ("z", "x")))):
            self.assertIs(refusal(taken_up, self.exchanged(old, new), stand).__class__, Unlike)
        # One column more, of the same rows where there are none.
        none = Tables([("table", "a", ("x",)), ("table", "b", ("y",))])
        ask = ((("with", "p", "a", ()),), (), ("rows", (cell("p", "x"),)), (), None, False)
        empty = stand_of(Run(none, ask))
        self.assertIs(refusal(taken_up, Tables([("table", "a", ("x", "y")), ("table", "c", ("y",))]), empty).__class__,
                      Unlike)
        self.assertIsNone(refusal(taken_up, Tables([("table", "a", ("x",)), ("table", "b", ("z",))]), empty))

    def exchanged(self, at, deed):
        return Tables(DEEDS[:at] + [deed] + DEEDS[at + 1:])

    def test_unlike_of_another_row(self):
        stand = self.stand()
        for at, worths in ((1, (1, 6)), (3, (2, 7)), (5, (-1, 0)), (7, (1, 3))):
            self.assertIs(refusal(taken_up, self.exchanged(at, DEEDS[at][:2] + (worths,)), stand).__class__, Unlike)
        # One more, one fewer, and the same worths by another number.
        self.assertIs(refusal(taken_up, Tables(DEEDS[:10] + [("row", "a", (1, 5))]), stand).__class__, Unlike)
        self.assertIs(refusal(taken_up, Tables(DEEDS[:10] + [("out", "a", 2)]), stand).__class__, Unlike)
        turned = [DEEDS[0], ("row", "a", (9, 9)), ("out", "a", 0)] + DEEDS[1:]
        self.assertIs(refusal(taken_up, Tables(turned), stand).__class__, Unlike)

    def test_rows_of_other_sources_and_of_columns_that_are_not_named(self):
        ask = ((("with", "p", "a", ()), ("none", "t", "b", ())), (), ("rows", (cell("p", "y"),)), (), None, False)
        stand = stand_of(Run(TABLES, ask))
        self.assertIs(refusal(taken_up, self.exchanged(5, ("row", "b", (1, 9))), stand).__class__, Unlike)
        self.assertIs(refusal(taken_up, self.exchanged(1, ("row", "a", (9, 5))), stand).__class__, Unlike)
        self.assertIsNone(refusal(taken_up, self.exchanged(9, ("row", "c", (5,))), stand))


class NoStandTest(unittest.TestCase):

    def test_whatever_it_is(self):
        for thing in THINGS + [JOINED, (JOINED,), [JOINED], 3, "stand"]:
            for tables in (TABLES, Tables()):
                self.assertIs(refusal(taken_up, tables, thing).__class__, NoStand, thing)

    def test_what_the_document_names(self):
        for stand in (stand_of(Run(TABLES, JOINED)), stand_of(to_the_end(Run(TABLES, JOINED)))):
            self.assertIs(refusal(taken_up, TABLES, list(stand)).__class__, NoStand)
            for thing in bent(stand):
                self.assertIs(refusal(taken_up, TABLES, thing).__class__, NoStand, thing)
                # Ahead of a later moment, and of what lacks.
                self.assertIs(refusal(taken_up, Tables(), thing).__class__, NoStand, thing)

    def test_one_thing_more_or_of_another_kind(self):
        stand = stand_of(Run(TABLES, JOINED))
        self.assertIs(refusal(taken_up, TABLES, stand + (None,)).__class__, NoStand)
        for at in range(len(stand)):
            for thing in (None, True, "a", [], 1.5):
                self.assertIs(refusal(taken_up, TABLES, stand[:at] + (thing,) + stand[at + 1:]).__class__, NoStand)


class BusyTest(unittest.TestCase):

    def test_a_stop_amid_a_turn(self):
        refused = []
        for ask in ASKS:
            run = Run(TABLES, ask, watcher=lambda told: refused.append(refusal(stand_of, run).__class__))
            unwatched = Run(TABLES, ask)
            turns = 0
            while not run.is_done():
                self.assertEqual(run.turn(), unwatched.turn())
                turns += 1
                self.assertEqual(refused, [Busy] * turns)
                # Behind it, it is stopped as any other.
                self.assertEqual(stand_of(run), stand_of(unwatched))
            refused.clear()

    def test_another_run_is_stopped_and_taken_up_amid_it(self):
        other = Run(TABLES, JOINED, rule=("rows", 1))
        told = []

        def goes_on(_):
            one = taken_up(TABLES, stand_of(other))
            told.append(one.turn())

        Run(TABLES, JOINED, watcher=goes_on).turn()
        self.assertEqual(told, [other.turn()])

    def test_behind_a_watcher_that_raises(self):
        def raises(told):
            raise Busy()

        run = Run(TABLES, JOINED, rule=("stay", 0), watcher=raises)
        for _ in range(2):
            self.assertIs(refusal(run.turn).__class__, Busy)
        other = Run(TABLES, JOINED, rule=("stay", 0))
        other.turn()
        other.turn()
        self.assertEqual(stand_of(run), stand_of(other))
        self.assertEqual(state(taken_up(TABLES, stand_of(run))), state(other))

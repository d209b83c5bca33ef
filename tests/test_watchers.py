import unittest

from helper import refusal, state
from plansamid.errors import Busy, Done, NoRoom
from plansamid.plainly import plainly
from plansamid.runs import Run
from plansamid.tables import Tables


def cell(alias, column):
    return ("cell", alias, column)


TABLES = Tables([("table", "a", ("x", "y")), ("row", "a", (1, 5)), ("row", "a", (2, 6)), ("row", "a", (1, 7)),
                 ("table", "b", ("x", "z")), ("row", "b", (1, 0)), ("row", "b", (2, 1)), ("row", "b", (1, 2))])
SOURCES = (("with", "p", "a", ()), ("with", "q", "b", (("x", "p", "x"),)))
ASK = (SOURCES, (), ("rows", (cell("p", "y"), ("over", ("number", 6), cell("q", "z")))), (), None, False)
SORTED = ASK[:3] + (((0, "up"),), None, False)
STRUCK = (SOURCES, (), ("rows", (cell("p", "x"),)), (), None, True)


class Stop(Exception):
    """What a watcher raises here."""


def watched(ask, watcher, **more):
    """A run; the watcher is called with the run, too."""
    run = Run(TABLES, ask, watcher=lambda told: watcher(run, told), **more)
    return run


class WatcherTest(unittest.TestCase):

    def test_called_behind_each_turn_with_what_it_tells(self):
        for ask in (ASK, SORTED, STRUCK):
            for rule in (("double",), ("stay", 0), ("guess", 2), ("rows", 1)):
                heard = []
                run = Run(TABLES, ask, rule=rule, watcher=heard.append)
                self.assertEqual(heard, [])
                turns = []
                while not run.is_done():
                    turns.append(run.turn())
                    self.assertEqual(heard, turns)
                self.assertTrue(all(told.__class__ is list for told in heard))
                self.assertIs(refusal(run.turn).__class__, Done)
                self.assertEqual(heard, turns)

    def test_it_is_told_all_as_the_turn_leaves_it(self):
        for ask in (ASK, SORTED, STRUCK):
            states = []
            run = watched(ask, lambda run, told: states.append(state(run)))
            unwatched = Run(TABLES, ask)
            while not run.is_done():
                run.turn()
                unwatched.turn()
                self.assertEqual(states[-1], state(unwatched))
                self.assertEqual(state(run), states[-1])

    def test_it_changes_what_it_is_handed(self):
        def spoil(run, told):
            told.append(("row", (9,), (9, 9)))
            told.reverse()
            told[0] = None
            if len(told) > 1:
                told.clear()

        run, unwatched = watched(ASK, spoil), Run(TABLES, ASK)
        while not run.is_done():
            told = run.turn()
            self.assertEqual(told, unwatched.turn())
            self.assertEqual(state(run), state(unwatched))
        self.assertEqual(run.answer(), plainly(TABLES, ASK))

    def test_the_asker_changes_what_the_turn_told(self):
        heard = []
        run = Run(TABLES, ASK, rule=("stay", 0), watcher=heard.append)
        for _ in range(2):
            told = run.turn()
            wanted = list(told)
            told.append(None)
            self.assertEqual(heard[-1], wanted)

    def test_turns_and_loans_are_refused_with_busy(self):
        refused = []

        def tries(run, told):
            before = state(run)
            for do, *args in ((run.turn,), (run.lend, 0), (run.lend, 5), (run.call_back, 0), (run.call_back, 10 ** 9),
                              (run.lend_hand, 1), (run.call_back_hand, 0), (run.call_back_hand, 10 ** 9)):
                refused.append(refusal(do, *args).__class__)
                self.assertEqual(state(run), before)

        for ask in (ASK, SORTED, STRUCK):
            run, unwatched, turns = watched(ask, tries), Run(TABLES, ask), 0
            while not run.is_done():
                self.assertEqual(run.turn(), unwatched.turn())
                turns += 1
                self.assertEqual(refused, [Busy] * (8 * turns))
                # Behind it nothing is refused so.
                run.lend(1)
                run.call_back(1)
                run.lend_hand(1)
                run.call_back_hand(1)
                self.assertIs(refusal(run.call_back, 21).__class__, NoRoom)
                self.assertIs(refusal(run.call_back_hand, 8).__class__, NoRoom)
            self.assertIs(refusal(run.turn).__class__, Done)
            self.assertEqual(state(run), state(unwatched))
            refused.clear()

    def test_what_it_raises_goes_through_the_turn_being_done(self):
        def stops(run, told):
            if raises:
                raise Stop(len(run.told()))

        for ask in (ASK, SORTED, STRUCK):
            run, unwatched = watched(ask, stops), Run(TABLES, ask)
            turns = 0
            while not unwatched.is_done():
                raises = turns % 3 != 2
                if raises:
                    with self.assertRaises(Stop) as caught:
                        run.turn()
                    self.assertEqual(caught.exception.args, (len(run.told()),))
                    unwatched.turn()
                else:
                    self.assertEqual(run.turn(), unwatched.turn())
                self.assertEqual(state(run), state(unwatched))
                turns += 1
                # It is not taken for amid its turn.
                run.lend(0)
                run.call_back_hand(0)
            self.assertIs(refusal(run.turn).__class__, Done)
            self.assertEqual(run.answer(), plainly(TABLES, ask))
            self.assertEqual(sorted(run.told()), sorted(set(run.told())))

    def test_it_raises_refusals_of_the_program(self):
        for error in (Busy, Done, NoRoom):
            def raises(run, told):
                raise error()

            run = watched(ASK, raises, rule=("stay", 1))
            with self.assertRaises(error):
                run.turn()
            self.assertEqual(run.looks(), 1)
            run.lend(1)

    def test_another_run_is_used_in_it(self):
        other = Run(TABLES, ASK)

        def turns_other(run, told):
            if not other.is_done():
                other.turn()
            other.lend(1)
            other.lend_hand(1)

        run, unwatched = watched(ASK, turns_other), Run(TABLES, ASK)
        while not run.is_done():
            self.assertEqual(run.turn(), unwatched.turn())
        self.assertTrue(other.is_done())
        self.assertEqual(other.told(), run.told())
        self.assertEqual((run.rooms(), run.hand()), (20, 8))
        self.assertGreater(other.rooms(), 20)

    def test_a_run_made_in_it_and_one_amid_whose_turn_it_is(self):
        seen = []

        def inner(told):
            seen.append(refusal(outer.turn).__class__)

        def makes(told):
            one = Run(TABLES, ASK, watcher=inner)
            one.turn()
            seen.append(one.looks())
            seen.append(refusal(outer.lend, 1).__class__)

        outer = Run(TABLES, ASK, watcher=makes)
        outer.turn()
        self.assertEqual(seen, [Busy, 1, Busy])
        outer.turn()
        self.assertEqual(outer.looks(), 2)

    def test_tables_are_changed_in_it(self):
        tables = Tables(TABLES.deeds())
        run = Run(tables, ASK, watcher=lambda told: tables.do(("row", "a", (1, len(tables.deeds())))))
        while not run.is_done():
            run.turn()
        self.assertEqual(run.answer(), plainly(TABLES, ASK))
        self.assertGreater(len(tables.rows("a")), 3)

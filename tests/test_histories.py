"""Runs by seeded asks and histories, held turn by turn against a second way to count, and against the plain run."""

import random
import unittest

from helper import Again, RunChecks, places_key, refusal, some_ask, some_deed, some_rule, some_tables
from plansamid.counts import counts_of
from plansamid.errors import NoRoom
from plansamid.rules import visit_at
from plansamid.runs import Run
from plansamid.tables import Tables


class HistoryTest(unittest.TestCase, RunChecks):

    def history(self, seed, loans):
        """A run, and the same once more, made by a seeded chance."""
        chance = random.Random(seed)
        deeds = some_tables(chance)
        tables, ask = Tables(deeds), some_ask(chance)
        rule = some_rule(chance, ask)
        moment = chance.choice((None, None, chance.randrange(3, len(deeds) + 1)))
        counts = chance.choice((None, None, {}, {"a": (40, {"x": 3, "y": 1}), "c": (0, {})}))
        sizes = [len(tables.rows(table, moment=moment)) for way, _, table, _ in ask[0] if way == "with"]
        starts = chance.choice((None, tuple(chance.randrange(max(size, 1)) for size in sizes)))
        rooms, hand = chance.randrange(12), chance.randrange(1, 6)
        run = Run(tables, ask, rule=rule, moment=moment, counts=counts, rooms=rooms, hand=hand, starts=starts)
        theirs = counts_of(tables, moment=moment) if counts is None else counts
        again = Again(Tables(deeds), ask, lambda k: visit_at(ask, rule, theirs, k), moment=moment, rooms=rooms,
                      hand=hand, starts=starts)
        while not run.is_done():
            if loans:
                self.lend_or_call_back(chance, run, again)
            if chance.randrange(3) == 0:
                some_deed(chance, tables)
            self.turn(run, again)
        self.assertTrue(again.done)
        return run, Tables(deeds), moment

    def lend_or_call_back(self, chance, run, again):
        many = chance.randrange(8)
        deed = chance.randrange(8)
        if deed == 0:
            run.lend(many)
            again.lend(many)
        elif deed == 1:
            error = refusal(run.call_back, many)
            self.assertEqual(error.__class__ is NoRoom, not again.call_back(many))
        elif deed == 2:
            run.lend_hand(many)
            again.hand += many
        elif deed == 3:
            error = refusal(run.call_back_hand, many)
            self.assertEqual(error.__class__ is NoRoom, not again.call_back_hand(many))

    def turn(self, run, again):
        before = run.told()
        told = run.turn()
        faults, rows = again.turn()
        self.assertEqual(run.told(), before + told)
        self.assertEqual(sorted(one for one in told if one[0] == "fault"),
                         sorted(("fault", what, places) for what, places in faults))
        mine = [one[1:] for one in told if one[0] == "row"]
        if not again.is_sorted:
            mine = sorted(mine, key=lambda one: (repr(one[0]), places_key(one[1])))
            rows = sorted(rows, key=lambda one: (repr(one[0]), places_key(one[1][0])))
        self.assertEqual([worths for worths, _ in mine], [worths for worths, _ in rows])
        for (_, places), (_, theirs) in zip(mine, rows):
            self.assertIn(places, theirs)
        self.assertEqual(run.visits(), [tuple(visit[:4]) for visit in again.visits])
        self.assertEqual((run.slabs(), run.steps(), run.rooms(), run.hand(), run.is_done()),
                         (again.slabs(), again.steps, again.rooms, again.hand, again.done))
        self.assertEqual(run.now_plan(), again.visits[-1][0] if again.open else None)

    def test_turn_by_turn(self):
        for seed in range(150):
            with self.subTest(seed=seed):
                run, tables, moment = self.history(seed, loans=False)
                self.check_end(run, tables, moment)
                self.check_slabs(run, tables, moment)

    def test_turn_by_turn_with_loans(self):
        for seed in range(150, 400):
            with self.subTest(seed=seed):
                run, tables, moment = self.history(seed, loans=True)
                self.check_end(run, tables, moment)
                self.check_slabs(run, tables, moment)

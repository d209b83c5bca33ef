import copy
import random
import unittest

from helper import THINGS, Plain, some_ask, some_tables, to_the_end
from plansamid.looker import lets_answer, lets_slabs
from plansamid.plainly import plainly
from plansamid.runs import Run
from plansamid.tables import Tables


def cell(alias, column):
    return ("cell", alias, column)


DEEDS = [("table", "a", ("x", "y")), ("row", "a", (1, 5)), ("row", "a", (2, 6)), ("row", "a", (1, 7)),
         ("table", "b", ("x", "z")), ("row", "b", (1, 0)), ("row", "b", (2, 1)), ("row", "b", (1, 2)),
         ("table", "c", ("x",))]
TABLES = Tables(DEEDS)
SOURCES = (("with", "p", "a", ()), ("with", "q", "b", (("x", "p", "x"),)))
ASK = (SOURCES, (), ("rows", (cell("p", "x"), ("over", ("number", 6), cell("q", "z")))), (), None, False)
ANSWER = ([((1, 3), [(0, 2)]), ((2, 6), [(1, 1)]), ((1, 3), [(2, 2)])], [((0, 0), ("tell", 1)), ((2, 0), ("tell", 1))])
STRUCK = ASK[:2] + (("rows", (cell("p", "x"), cell("s", "x"))), (), None, True)
STRUCK = (SOURCES + (("perhaps", "s", "b", (("z", "p", "y"),)),),) + STRUCK[1:]


def others_of(thing):
    """What differs in one place alone: something less, more, twice, in another order, of another kind."""
    if thing.__class__ in (tuple, list):
        kind, other_kind = (tuple, list) if thing.__class__ is tuple else (list, tuple)
        yield other_kind(thing)
        yield kind(thing) + kind([None])
        for at, one in enumerate(thing):
            yield thing[:at] + thing[at + 1:]
            yield thing[:at] + kind([one]) + thing[at:]
            yield thing[:at] + kind([None if one is not None else 0]) + thing[at + 1:]
            if at and thing[at - 1] != one:
                yield thing[:at - 1] + kind([one, thing[at - 1]]) + thing[at + 1:]
            for other in others_of(one):
                yield thing[:at] + kind([other]) + thing[at + 1:]
    elif thing.__class__ is str:
        yield thing + "s"
        yield thing[1:]
        yield (thing,)
    elif thing.__class__ is int:
        yield thing + 1
        yield -thing - 1
        yield str(thing)
        if thing in (0, 1):
            yield bool(thing)
    else:
        yield from (0, False, "", (), [])


class LetsAnswerTest(unittest.TestCase):

    def check(self, tables, ask, answer, **more):
        self.assertIs(lets_answer(tables, ask, answer, **more), True)
        for other in others_of(answer):
            self.assertIs(lets_answer(tables, ask, other, **more), False, other)

    def test_the_right_one_and_ones_bent_at_each_place(self):
        self.assertEqual(plainly(TABLES, ASK), ANSWER)
        self.check(TABLES, ASK, ANSWER)
        self.check(TABLES, STRUCK, plainly(TABLES, STRUCK))
        self.check(TABLES, STRUCK, ([((1, None), [(0, 0, None), (0, 2, None), (2, 0, None), (2, 2, None)]),
                                     ((2, None), [(1, 1, None)])], []))
        groups = (SOURCES, (), ("groups", (), (("count", cell("p", "y")), ("least", cell("q", "z")))), (), None, False)
        self.check(TABLES, groups, ([((5, 0), [(0, 0), (0, 2), (1, 1), (2, 0), (2, 2)])], []))

    def test_whatever_it_is(self):
        none = ((("with", "p", "c", ()),), (), ("rows", (cell("p", "x"),)), (), None, False)
        self.check(TABLES, none, ([], []))
        for ask in (ASK, STRUCK, none):
            for thing in THINGS + [([], [], []), [[], []], ((), ()), ([], ()), ({}, []), ([None], []), ([()], []),
                                   ([((1, 3),)], []), ([], [None])]:
                self.assertIs(lets_answer(TABLES, ask, thing), False, thing)

    def test_what_is_handed_in_stays_as_it_is(self):
        thing = copy.deepcopy(ANSWER)
        lets_answer(TABLES, ASK, thing)
        self.assertEqual(thing, ANSWER)
        run, slabs = Run(TABLES, ASK), [(0, 2), (1, 2), (0, 1)]
        lets_slabs(run, slabs)
        self.assertEqual((slabs, run.looks()), ([(0, 2), (1, 2), (0, 1)], 0))

    def test_rows_that_are_true_for_numbers(self):
        ask = ((("with", "q", "b", ()),), (), ("rows", (cell("q", "z"),)), (), None, False)
        right = ([((0,), [(0,)]), ((1,), [(1,)]), ((2,), [(2,)])], [])
        self.check(TABLES, ask, right)
        self.assertIs(lets_answer(TABLES, ask, ([((False,), [(0,)])] + right[0][1:], [])), False)
        self.assertIs(lets_answer(TABLES, ask, (right[0][:1] + [((1,), [(True,)])] + right[0][2:], [])), False)

    def test_first_and_order(self):
        ask = ASK[:3] + (((0, "down"),), 2, False)
        right = ([ANSWER[0][1], ANSWER[0][0]], ANSWER[1])
        self.check(TABLES, ask, right)
        self.assertIs(lets_answer(TABLES, ask, ANSWER), False)
        self.assertIs(lets_answer(TABLES, ask, ([ANSWER[0][1], ANSWER[0][2]], ANSWER[1])), False)

    def test_moments(self):
        tables = Tables(DEEDS)
        tables.do(("out", "a", 0))
        self.assertIs(lets_answer(tables=tables, ask=ASK, thing=ANSWER, moment=len(DEEDS)), True)
        self.assertIs(lets_answer(tables, ASK, ANSWER), False)
        self.assertIs(lets_answer(tables, ASK, plainly(tables, ASK), moment=None), True)

    def test_runs_by_chance(self):
        for seed in range(60):
            chance = random.Random(seed)
            tables, ask = Tables(some_tables(chance, 4)), some_ask(chance)
            answer = Plain(tables, ask).answer()
            self.assertIs(lets_answer(tables, ask, answer), True)
            self.assertIs(lets_answer(tables, ask, to_the_end(Run(tables, ask)).answer()), True)
            others = list(others_of(answer))
            for other in chance.sample(others, min(len(others), 40)):
                self.assertIs(lets_answer(tables, ask, other), False)


class LetsSlabsTest(unittest.TestCase):

    def test_those_of_runs(self):
        for rule in (("double",), ("stay", 0), ("stay", 3), ("rows", 1), ("guess", 1)):
            run = Run(TABLES, ASK, rule=rule)
            while not run.is_done():
                self.assertIs(lets_slabs(run, run.slabs()), False)
                run.turn()
            self.assertIs(lets_slabs(run=run, thing=run.slabs()), True)
            # They are looked at for its sizes, whatever it met itself.
            self.assertIs(lets_slabs(Run(TABLES, ASK), run.slabs()), True)
            for other in others_of(run.slabs()):
                if other not in ([(0, 3)], [(1, 3)], [(0, 1), (0, 2)]):
                    self.assertIs(lets_slabs(run, other), self.whole(other), other)

    def whole(self, slabs):
        """Of three rows each."""
        rest = [3, 3]
        if slabs.__class__ is not list:
            return False
        for slab in slabs:
            if slab.__class__ is not tuple or [one.__class__ for one in slab] != [int, int] or 0 in rest:
                return False
            if slab[0] not in (0, 1) or not 1 <= slab[1] <= rest[slab[0]]:
                return False
            rest[slab[0]] -= slab[1]
        return 0 in rest

    def test_whatever_it_is(self):
        run = Run(TABLES, ASK)
        for thing in THINGS + [[(0, 2)], [(0, 4)], [(0, True), (0, 2)], [(0, 3), (1, 1)], [[0, 3]], [(2, 3)], [(-1, 3)],
                               ((0, 3),), [(0, 3, 0)], [(0, 0), (0, 3)], [(False, 3)]]:
            self.assertIs(lets_slabs(run, thing), False, thing)
        self.assertIs(lets_slabs(run, [(0, 2), (1, 2), (0, 1)]), True)

    def test_of_sources_without_a_row_and_of_others(self):
        ask = ((SOURCES[0], ("with", "r", "c", ())), (), ("rows", (cell("p", "x"),)), (), None, False)
        run = Run(TABLES, ask)
        self.assertIs(lets_slabs(run, []), True)
        self.assertIs(lets_slabs(run, [(0, 3)]), False)
        # Sizes are those of the joined sources alone.
        ask = ((SOURCES[0], ("perhaps", "s", "c", ())), (), ("rows", (cell("p", "x"),)), (), None, False)
        self.assertIs(lets_slabs(Run(TABLES, ask), [(0, 3)]), True)
        self.assertIs(lets_slabs(Run(TABLES, ask), []), False)
        self.assertIs(lets_slabs(Run(TABLES, ask), [(1, 1), (0, 3)]), False)

    def test_at_the_moment_of_the_run(self):
        tables = Tables(DEEDS)
        run = Run(tables, ASK)
        tables.do(("row", "a", (5, 5)))
        tables.do(("out", "b", 0))
        self.assertIs(lets_slabs(run, [(0, 3)]), True)
        self.assertIs(lets_slabs(run, [(1, 2)]), False)
        self.assertIs(lets_slabs(Run(tables, ASK), [(1, 2)]), True)

import itertools
import random
import unittest

from helper import THINGS, Plain, refusal, sieve_of, some_ask, some_deed, some_rule, some_tables, state
from plansamid.errors import NoPlaces
from plansamid.plainly import plainly
from plansamid.runs import Run
from plansamid.tables import Tables
from plansamid.whys import became, lets_why, why_not


def cell(alias, column):
    return ("cell", alias, column)


# p: 0 (1, 5), 1 (2, 6), 3 (1, 7); q: 0 (1, 0), 1 (2, 1), 2 (1, 2), 3 (3, 3); s of 1 and 9; t of 6
DEEDS = [("table", "a", ("x", "y")), ("row", "a", (1, 5)), ("row", "a", (2, 6)), ("row", "a", (1, 0)),
         ("row", "a", (1, 7)), ("out", "a", 2), ("table", "b", ("x", "z")), ("row", "b", (1, 0)), ("row", "b", (2, 1)),
         ("row", "b", (1, 2)), ("row", "b", (3, 3)), ("table", "c", ("x",)), ("row", "c", (1,)), ("row", "c", (9,)),
         ("table", "d", ("y",)), ("row", "d", (4,)), ("row", "d", (6,)), ("row", "d", (6,))]
TABLES = Tables(DEEDS)
P = ("with", "p", "a", ())
Q = ("with", "q", "b", (("x", "p", "x"),))
NONE = ("none", "t", "d", (("y", "p", "y"),))
PERHAPS = ("perhaps", "s", "c", (("x", "q", "x"),))
DIVIDED = ("over", ("number", 6), cell("q", "z"))
BELOW = ("below", cell("p", "y"), ("number", 7))


def ask_of(sources=(P, Q), sieves=(), parts=(cell("p", "y"),), **more):
    return (sources, sieves, ("rows", tuple(parts)), more.get("order", ()), None, more.get("struck", False))


ALL = ask_of((P, Q, NONE, PERHAPS), (BELOW, ("unlike", DIVIDED, ("number", 3))), (cell("s", "x"),))


class WhyNotTest(unittest.TestCase):

    def check(self, ask, places, why, tables=TABLES, **more):
        self.assertEqual(why_not(tables, ask, places, **more), why)
        self.assertIs(lets_why(tables, ask, places, why, **more), True)

    def test_gone(self):
        for places, i in (((4, 0), 0), ((2, 0), 0), ((None, 0), 0), ((0, None), 1), ((0, 4), 1),
                          ((10 ** 99, 10 ** 99), 0),
                          ((0, 10 ** 99), 1), ((2, None), 0)):
            self.check(ask_of(), places, ("gone", i))
        # The "none" source is counted, though it has no place; of a "perhaps" one None is no row.
        self.check(ALL, (0, 0, 2), ("gone", 3))
        self.check(ALL, (0, 9, 2), ("gone", 1))
        self.check(ALL, (0, None, None), ("gone", 1))

    def test_gone_at_a_moment(self):
        self.check(ask_of(), (2, 0), ("gone", 0))
        self.check(ask_of((P,)), (2,), None, moment=5)
        self.check(ask_of((P,)), (3,), None, moment=5)
        self.check(ask_of((P,)), (3,), ("gone", 0), moment=4)
        self.check(ask_of((P,)), (2,), ("gone", 0), moment=6)
        tables = Tables(DEEDS + [("out", "b", 0)])
        self.check(ask_of(), (0, 0), ("gone", 1), tables)
        self.check(ask_of(), (0, 0), None, tables, moment=len(DEEDS))

    def test_the_first_pair_that_does_not_fit(self):
        self.check(ask_of(), (0, 1), ("pair", 1, 0))
        self.check(ask_of(), (0, 2), None)
        two = ("with", "q", "b", (("x", "p", "x"), ("z", "p", "y")))
        self.check(ask_of((P, two)), (0, 2), ("pair", 1, 1))
        self.check(ask_of((P, two)), (1, 0), ("pair", 1, 0))
        three = (P, Q, ("with", "r", "b", (("x", "q", "x"),)))
        self.check(ask_of(three), (0, 0, 1), ("pair", 2, 0))
        self.check(ask_of(three), (0, 1, 0), ("pair", 1, 0))
        self.check(ask_of(three), (0, 2, 0), None)
        # Of a "perhaps" source that has a row, by its number in the ask; of one that has none, no pair.
        self.check(ask_of((P, Q, NONE, PERHAPS)), (0, 0, 1), ("pair", 3, 0))
        self.check(ask_of((P, Q, NONE, PERHAPS)), (0, 1, None), ("pair", 1, 0))
        self.check(ask_of((P, Q, PERHAPS)), (1, 1, None), None)

    def test_the_first_none_source_and_its_least_row(self):
        self.check(ask_of((P, Q, NONE)), (1, 1), ("none", 2, 1))
        self.check(ask_of((P, Q, NONE)), (0, 0), None)
        # One without a pair is fitted by each row.
        self.check(ask_of((P, ("none", "u", "d", ()))), (0,), ("none", 1, 0))
        self.check(ask_of((P, ("none", "u", "d", (("y", "p", "x"),)), NONE)), (1,), ("none", 2, 1))
        out = Tables(DEEDS + [("out", "d", 1)])
        self.check(ask_of((P, Q, NONE)), (1, 1), ("none", 2, 2), out)

    def test_a_lone_one(self):
        self.check(ask_of((P, Q, PERHAPS)), (0, 0, None), ("lone", 2))
        self.check(ask_of((P, Q, PERHAPS)), (0, 0, 0), None)
        other = ("perhaps", "u", "c", (("x", "p", "x"),))
        self.check(ask_of((P, PERHAPS[:3] + ((("x", "p", "y"),),), other)), (0, None, None), ("lone", 2))
        self.check(ask_of((P, other, PERHAPS[:3] + ((("x", "p", "x"),),))), (0, None, None), ("lone", 1))
        self.check(ask_of((P, NONE, ("perhaps", "u", "c", ()))), (0, None), ("lone", 2))

    def test_the_sieve_by_which_they_are_dropped(self):
        self.check(ask_of(sieves=(BELOW,)), (3, 0), ("sieve", 0))
        self.check(ask_of(sieves=(BELOW,)), (0, 0), None)
        self.check(ask_of(sieves=(BELOW, ("lacking", cell("q", "z")))), (0, 0), ("sieve", 1))
        self.check(ask_of(sieves=(BELOW, ("lacking", cell("q", "z")))), (3, 0), ("sieve", 0))
        lacking = ("lacking", cell("s", "x"))
        self.check(ask_of((P, Q, PERHAPS), (lacking,)), (1, 1, None), None)
        self.check(ask_of((P, Q, PERHAPS), (lacking,)), (0, 0, 0), ("sieve", 0))

    def test_none_of_a_fault(self):
        below = ("below", DIVIDED, ("number", 5))
        # 6 over 0, of row 0 of q; 6 over 2 is below 5; 6 over 1 is not.
        self.check(ask_of(sieves=(below,)), (0, 0), None)
        self.check(ask_of(sieves=(below,)), (0, 2), None)
        self.check(ask_of(sieves=(below,)), (1, 1), ("sieve", 0))
        # A sieve behind the fault isn't looked at, one ahead of it is.
        never = ("lacking", ("number", 1))
        self.check(ask_of(sieves=(below, never)), (0, 0), None)
        self.check(ask_of(sieves=(never, below)), (0, 0), ("sieve", 0))
        self.check(ask_of(parts=(DIVIDED,)), (0, 0), None)

    def test_two_causes_at_once(self):
        # Row 3 of p is dropped by the first sieve; row 1 has a row of t; s fits where x is 1.
        for places, why in (((9, 9, 9), ("gone", 0)), ((1, 0, 9), ("gone", 3)), ((1, 0, 1), ("pair", 1, 0)),
                            ((1, 1, 1), ("pair", 3, 0)), ((1, 1, None), ("none", 2, 1)), ((0, 0, None), ("lone", 3)),
                            ((3, 0, None), ("lone", 3)), ((3, 0, 0), ("sieve", 0)), ((0, 2, 0), ("sieve", 1)),
                            ((0, 0, 0), None), ((3, 1, None), ("pair", 1, 0)), ((1, 3, None), ("pair", 1, 0)),
                            ((1, 0, None), ("pair", 1, 0))):
            self.check(ALL, places, why)
        with_none = (P, NONE, ("perhaps", "u", "d", (("y", "p", "y"),)))
        self.check(ask_of(with_none), (1, None), ("none", 1, 1))

    def test_arguments_by_name(self):
        self.assertEqual(why_not(tables=TABLES, ask=ask_of(), places=(0, 1), moment=None), ("pair", 1, 0))
        self.assertIs(lets_why(tables=TABLES, ask=ask_of(), places=(0, 1), thing=None, moment=None), False)


class LetsWhyTest(unittest.TestCase):

    def test_others_and_whatever_it_is(self):
        for places in ((0, 1, None), (9, 0, None), (1, 1, None), (0, 0, None), (3, 0, 0), (0, 0, 0)):
            why = why_not(TABLES, ALL, places)
            self.assertIs(lets_why(TABLES, ALL, places, why), True)
            others = THINGS + [("gone", 0), ("gone", 1), ("pair", 1, 0), ("pair", 3, 0), ("none", 2, 1), ("none", 2, 2),
                               ("lone", 3), ("sieve", 0), ("sieve", 1), ("row", 0), ("fault", ("sieve", 1), 0)]
            for thing in others:
                self.assertIs(lets_why(TABLES, ALL, places, thing), thing == why and thing is not True, thing)

    def test_other_kinds(self):
        for places, bent in (((9, 0, None), (["gone", 0], ("gone", False), ("gone", "0"), ("gone",), ("gone", 0, 0),
                                             ("gone", None), (("gone",), 0), "gone")),
                             ((0, 1, None), (("pair", True, False), ["pair", 1, 0], ("pair", 1, False),
                                             ("pair", True, 0), ("pair", 1), ("pair", 1, 0, 0), ("pair", 1, [0]))),
                             ((0, 0, 0), (False, 0, (), [], "", (None,), [None]))):
            for thing in bent:
                self.assertIs(lets_why(TABLES, ALL, places, thing), False, thing)


class NoPlacesTest(unittest.TestCase):

    def test_of_whatever_is_none(self):
        run = Run(TABLES, ALL)
        no_places = THINGS + [(), (0,), (0, 0), (0, 0, 0, 0), [0, 0, 0], (0, 0, -1), (-1, 0, 0), (0, True, 0),
                              (False, 0, 0), (0, 0, "0"), ((0,), 0, 0), (0, 0, []), (0, 0, 0, None), "000"]
        no_places = [thing for thing in no_places if thing not in ((None, None, None), (1, 2, 3))]
        for thing in no_places:
            for do, *args in ((became, run, thing), (why_not, TABLES, ALL, thing),
                              (lets_why, TABLES, ALL, thing, None)):
                self.assertIs(refusal(do, *args).__class__, NoPlaces, thing)
        # Ahead of any look at rows, also where nothing is there.
        self.assertIs(refusal(why_not, TABLES, ask_of((P, PERHAPS[:3] + ((),))), (9, -1)).__class__, NoPlaces)
        for thing, told in (((None, None, None), ("gone", 0)), ((1, 2, 3), ("yet",))):
            self.assertEqual(became(run, thing), told)
            self.assertEqual(why_not(TABLES, ALL, thing)[0], "gone")


class BecameTest(unittest.TestCase):

    # Led by p, kept: row 0, 1, 3 of p in slab 0.
    def test_of_each_sort_as_it_goes_on(self):
        run = Run(TABLES, ALL, rule=("rows", 1))
        wanted = {(0, 0, 0): ("fault", ("sieve", 1), 0), (0, 2, 0): ("sieve", 1, 0), (0, 1, None): ("pair", 1, 0, 0),
                  (0, 0, None): ("lone", 3, 0), (0, 2, 9): ("gone", 3, 0)}
        gone = {(2, 0, 0): ("gone", 0), (0, 4, 0): ("gone", 1), (None, 0, 0): ("gone", 0), (0, None, 0): ("gone", 1),
                (9, 9, 9): ("gone", 0)}
        for places in wanted:
            self.assertEqual(became(run, places), ("yet",))
        for turns in range(2):
            for places, told in gone.items():
                self.assertEqual(became(run, places), told)
            run.turn()
        for places, told in wanted.items():
            self.assertEqual(became(run=run, places=places), told)
        for places in ((1, 1, None), (3, 0, 0), (1, 0, 9)):
            self.assertEqual(became(run, places), ("yet",))

    def test_slabs(self):
        ask = ask_of()
        run = Run(TABLES, ask, rule=("rows", 1))
        while not run.is_done():
            run.turn()
        # Row 0 of p; row 1 of p; row 0, then row 1 of q; the last of p is met with each of q by then.
        self.assertEqual(run.slabs(), [(0, 1), (0, 1), (1, 1), (1, 1), (0, 1)])
        for places, told in (((0, 0), ("row", 0)), ((0, 3), ("pair", 1, 0, 0)), ((1, 1), ("row", 1)),
                             ((1, 3), ("pair", 1, 0, 1)), ((3, 0), ("row", 2)), ((3, 1), ("pair", 1, 0, 3)),
                             ((3, 2), ("row", 4)), ((3, 3), ("pair", 1, 0, 4)), ((2, 0), ("gone", 0))):
            self.assertEqual(became(run, places), told)

    def test_positions_are_by_the_starts(self):
        run = Run(TABLES, ask_of(), rule=("stay", 0), starts=(2, 3))
        run.turn()
        run.turn()
        self.assertEqual([became(run, places) for places in ((3, 0), (3, 3), (0, 0), (1, 1))],
                         [("row", 0), ("pair", 1, 0, 0), ("yet",), ("yet",)])
        run.turn()
        self.assertEqual([became(run, places) for places in ((3, 2), (0, 0), (1, 1))],
                         [("row", 0), ("row", 0), ("yet",)])
        turned = Run(TABLES, ask_of(), rule=("stay", 2), starts=(0, 1))
        turned.turn()
        turned.turn()
        self.assertEqual([became(turned, places) for places in ((1, 1), (0, 1), (0, 0), (3, 2))],
                         [("row", 0), ("pair", 1, 0, 0), ("yet",), ("yet",)])

    def test_found_ones_whether_their_row_was_told_or_not(self):
        for more in ({"struck": True}, {"order": ((0, "up"),)}, {}):
            run = Run(TABLES, ask_of(parts=(cell("p", "x"),), **more), rule=("stay", 0))
            run.turn()
            run.turn()
            for places in ((0, 0), (0, 2)):
                self.assertEqual(became(run, places), ("row", 0))
        first = ask_of()[:3] + ((), 1, False)
        groups = ((P, Q), (), ("groups", (), (("count", cell("p", "x")),)), (), None, False)
        for ask in (first, groups):
            run = Run(TABLES, ask, rule=("stay", 0))
            while not run.is_done():
                run.turn()
            self.assertEqual([became(run, places) for places in ((0, 0), (3, 2), (1, 1))], [("row", 0)] * 3)

    def test_faults(self):
        groups = ((P, Q), (), ("groups", (cell("p", "x"),), (("count", cell("p", "x")), ("sum", DIVIDED))), (), None,
                  False)
        for ask, what in ((ask_of(parts=(cell("p", "x"), DIVIDED)), ("tell", 1)), (groups, ("tell", 2)),
                          (ask_of(sieves=(BELOW, ("lacking", DIVIDED))), ("sieve", 1))):
            run = Run(TABLES, ask, rule=("stay", 0))
            run.turn()
            run.turn()
            self.assertEqual(became(run, (0, 0)), ("fault", what, 0))
            self.assertIsNone(why_not(TABLES, ask, (0, 0)))

    def test_deeds_done_later_change_nothing(self):
        tables = Tables(DEEDS)
        run = Run(tables, ask_of(), rule=("stay", 0))
        tables.do(("out", "a", 0))
        tables.do(("row", "b", (1, 9)))
        run.turn()
        run.turn()
        self.assertEqual([became(run, places) for places in ((0, 0), (0, 4), (2, 0))],
                         [("row", 0), ("gone", 1), ("gone", 0)])

    def test_amid_a_turn_it_is_told_as_the_turn_leaves_it(self):
        heard = []
        run = Run(TABLES, ask_of(), rule=("stay", 0), watcher=lambda told: heard.append(became(run, (0, 0))))
        run.turn()
        run.turn()
        self.assertEqual(heard, [("yet",), ("row", 0)])

    def test_where_a_source_has_no_row(self):
        tables = Tables(DEEDS + [("table", "e", ("x",))])
        run = Run(tables, ask_of((P, ("with", "q", "e", ()))))
        self.assertTrue(run.is_done())
        self.assertEqual([became(run, places) for places in ((0, 0), (2, 0), (0, None))],
                         [("gone", 1), ("gone", 0), ("gone", 1)])


class Again:
    """Whys, and what became of places, once more, by trying what fits."""

    def __init__(self, run):
        self.run, self.ask = run, run.ask()
        self.plain = Plain(run.tables(), run.ask(), run.moment())
        self.rows = self.plain.rows
        self.found = self.plain.founds()

    def why(self, places):
        choice = dict(zip(self.plain.by_way("with", "perhaps"), places))
        for i, number in sorted(choice.items()):
            if number not in self.rows[i] and (number is not None or self.ask[0][i][0] == "with"):
                return ("gone", i)
        look = self.plain.look(choice)
        for i, number in sorted(choice.items()):
            for j, (own, alias, other) in enumerate(self.ask[0][i][3]):
                if number is not None and look[(self.ask[0][i][1], own)] != look[(alias, other)]:
                    return ("pair", i, j)
        for i in self.plain.by_way("none"):
            fit = [number for number in self.rows[i] if self.plain.fits(i, number, look)]
            if fit:
                return ("none", i, min(fit))
        for i in self.plain.by_way("perhaps"):
            if choice[i] is None and any(self.plain.fits(i, number, look) for number in self.rows[i]):
                return ("lone", i)
        for k, sieve in enumerate(self.ask[1]):
            if sieve_of(sieve, look) is not True:
                return None if sieve_of(sieve, look) == "fault" else ("sieve", k)
        return None

    def became(self, places):
        positions = []
        for i in self.plain.by_way("with"):
            numbers, start = sorted(self.rows[i]), self.run.starts()[i]
            if places[i] not in numbers:
                return ("gone", i)
            positions.append((numbers.index(places[i]) - start) % len(numbers))
        for k, (source, many) in enumerate(self.run.slabs()):
            positions[source] -= many
            if positions[source] < 0:
                return self.met(places) + (k,)
        return ("yet",)

    def met(self, places):
        why = self.why(places)
        if why is not None:
            return why
        word, what = self.plain.judged(places)
        return ("row",) if word == "row" else ("fault", what)

    def all_places(self):
        """More than all: rows that are out, too, and None everywhere."""
        numbers = []
        for i in self.plain.by_way("with", "perhaps"):
            numbers.append(list(range(max(self.rows[i], default=0) + 2)) + [None])
        return list(itertools.product(*numbers))


class ChanceTest(unittest.TestCase):

    def test_runs_by_chance(self):
        sorts = set()
        for seed in range(100):
            with self.subTest(seed=seed):
                chance = random.Random(seed)
                tables, ask = Tables(some_tables(chance, 3)), some_ask(chance)
                sizes = [len(tables.rows(table)) for way, _, table, _ in ask[0] if way == "with"]
                run = Run(tables, ask, rule=some_rule(chance, ask), rooms=chance.randrange(9),
                          starts=[chance.randrange(max(size, 1)) for size in sizes])
                again = Again(run)
                while not run.is_done():
                    self.check(chance, run, again, sorts)
                    some_deed(chance, tables)
                    run.turn()
                self.check(chance, run, again, sorts)
                self.check_answer(run, again)
        self.assertEqual(sorts, {"gone", "yet", "row", "fault", "pair", "none", "lone", "sieve"})

    def check(self, chance, run, again, sorts):
        places = again.all_places()
        before = state(run)
        for one in chance.sample(places, min(len(places), 12)):
            told = became(run, one)
            self.assertEqual(told, again.became(one))
            why = why_not(run.tables(), run.ask(), one, moment=run.moment())
            self.assertEqual(why, again.why(one))
            self.assertIs(lets_why(run.tables(), run.ask(), one, why, moment=run.moment()), True)
            sorts.add(told[0])
        self.assertEqual(state(run), before)

    def check_answer(self, run, again):
        """Each told row, and each fault, leads back to its slab; all else has a why."""
        rows, faults = plainly(run.tables(), run.ask(), moment=run.moment())
        self.assertEqual(run.answer(), (rows, faults))
        for places, what in faults:
            self.assertEqual(became(run, places)[:2], ("fault", what))
        for worths, founds in rows:
            for places in founds:
                self.assertEqual(became(run, places)[0], "row")
        found = [places for places, _ in again.plain.found_rows()] + [places for places, _ in faults]
        for places in again.all_places():
            self.assertEqual(why_not(run.tables(), run.ask(), places, moment=run.moment()) is None, places in found)
            self.assertIs(became(run, places)[0] in ("row", "fault"), places in found)

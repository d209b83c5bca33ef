"""Whole histories: deeds, asks by every rule, turns, shared walks, loans, stops, texts; each ask's answer the plain one."""

import random
import unittest

from helper import RunChecks, refusal, some_ask, some_rule, some_tables, state, to_the_end
from plansamid.errors import Busy, NoRoom, Taken, TooMany
from plansamid.hindsight import share
from plansamid.house import House
from plansamid.looker import lets_answer, lets_slabs
from plansamid.plainly import plainly
from plansamid.plans import plans_of
from plansamid.runs import Run
from plansamid.stands import stand_of, taken_up
from plansamid.standtexts import read_house, read_stand, show_house, show_stand
from plansamid.tables import Tables
from plansamid.whys import became, why_not


class WholeCase(unittest.TestCase, RunChecks):

    def check_done(self, run, tables):
        """The run by the tables as they were at its moment."""
        self.check_end(run, tables, tables.moment())
        self.check_slabs(run, tables, tables.moment())
        self.assertTrue(lets_answer(run.tables(), run.ask(), run.answer(), moment=run.moment()))
        self.assertTrue(lets_slabs(run, run.slabs()))
        rows, faults = run.answer()
        for _, founds in rows:
            for places in founds:
                self.assertEqual(became(run, places), ("row", became(run, places)[1]))
                self.assertIsNone(why_not(run.tables(), run.ask(), places, moment=run.moment()))
        for places, what in faults:
            self.assertEqual(became(run, places)[:2], ("fault", what))


class TwoHouses:
    """Two houses with the same deeds done, and what should come of each run."""

    def __init__(self, case, chance):
        self.case, self.chance = case, chance
        self.houses = [House(), House(rooms=60)]
        self.begun = {}
        for deed in some_tables(chance):
            self.do(deed)

    def do(self, deed):
        refused = [refusal(house.do, deed).__class__ for house in self.houses]
        self.case.assertEqual(refused[0], refused[1])

    def deed(self):
        name = self.chance.choice("abc")
        self.do(self.chance.choice((("row", name, (self.chance.randrange(3), self.chance.randrange(3))),
                                    ("out", name, self.chance.randrange(6)))))

    def some_name(self):
        """The number of a house, and the name of a run there."""
        at = self.chance.randrange(2)
        names = self.houses[at].names()
        return at, self.chance.choice(names) if names else None

    def begin(self):
        at, ask = self.chance.randrange(2), some_ask(self.chance)
        name = self.chance.choice("klmnopqrst")
        error = refusal(self.houses[at].begin, name, ask, rule=some_rule(self.chance, ask),
                        rooms=self.chance.randrange(12), hand=self.chance.randrange(1, 5),
                        along=self.chance.choice((True, False)))
        if error is None:
            self.begun[(at, name)] = self.houses[at].tables().twin()
        else:
            self.case.assertIn(error.__class__, (Taken, TooMany, NoRoom))

    def turn(self):
        at, name = self.some_name()
        if name is not None and not self.houses[at].run(name).is_done():
            self.houses[at].turn(name)

    def share(self):
        self.houses[self.chance.randrange(2)].share(self.chance.choice("abc"))

    def loan(self):
        at, name = self.some_name()
        if name is not None:
            deed = self.chance.choice((self.houses[at].lend, self.houses[at].call_back))
            refusal(deed, name, self.chance.randrange(9))

    def move(self):
        """A run is stopped here and goes on there, perhaps behind a text."""
        at, name = self.some_name()
        other = self.chance.choice("klmnopqrst")
        if name is None or other in self.houses[1 - at].names() or len(self.houses[1 - at]) == 8:
            return
        stand = self.houses[at].stop(name)
        if self.chance.randrange(2):
            stand = read_stand(show_stand(stand))
        error = refusal(self.houses[1 - at].take_up, other, stand)
        if error is None:
            self.begun[(1 - at, other)] = self.begun.pop((at, name))
        else:
            self.case.assertIs(error.__class__, NoRoom)
            self.houses[at].take_up(name, stand)

    def write(self):
        at = self.chance.randrange(2)
        self.houses[at] = read_house(show_house(self.houses[at]))

    def ended(self):
        """Each run to its end, with the tables of its moment."""
        for at, name in sorted(self.begun):
            house = self.houses[at]
            while not house.run(name).is_done():
                house.turn(name)
            yield house.run(name), self.begun[(at, name)]


class HistoryTest(WholeCase):

    def test_in_houses(self):
        many = 0
        for seed in range(40):
            with self.subTest(seed=seed):
                chance = random.Random(seed)
                both = TwoHouses(self, chance)
                for _ in range(120):
                    chance.choice([both.begin, both.begin, both.deed, both.loan, both.write] + [both.turn] * 4 +
                                  [both.share] * 3 + [both.move] * 2)()
                for run, tables in both.ended():
                    self.check_done(run, tables)
                    many += 1
        self.assertGreater(many, 200)

    def test_alone_stopped_and_gone_on(self):
        for seed in range(80):
            with self.subTest(seed=seed):
                chance = random.Random(seed)
                tables, ask = Tables(some_tables(chance)), some_ask(chance)
                then = tables.twin()
                run = Run(tables, ask, rule=some_rule(chance, ask), rooms=chance.randrange(12), hand=2)
                told = []
                while not run.is_done():
                    refusal(tables.do, ("row", chance.choice("abc"), (chance.randrange(3), 1)))
                    if chance.randrange(3) == 0:
                        tables = Tables(tables.deeds())
                        run = taken_up(tables, stand_of(run))
                    deed = chance.choice((run.lend, run.call_back, run.lend_hand, run.call_back_hand))
                    refusal(deed, chance.randrange(6))
                    told.extend(run.turn())
                self.assertEqual(run.told(), told)
                self.check_done(run, then)

    def test_never_more_than_promised_where_nothing_is_lent_or_called_back(self):
        for seed in range(40):
            with self.subTest(seed=seed):
                chance = random.Random(seed)
                house = House()
                for deed in some_tables(chance):
                    house.do(deed)
                asks = [some_ask(chance) for _ in range(4)]
                for name, ask in zip("klmn", asks):
                    house.begin(name, ask, along=chance.choice((True, False)))
                    house.share("a")
                for _ in range(100):
                    name = chance.choice("klmn")
                    if not house.run(name).is_done():
                        house.turn(name)
                    house.share(chance.choice("abc"))
                    house.take_up("other", house.stop(name))
                    house.take_up(name, house.stop("other"))
                for name in "klmn":
                    run = to_the_end(house.run(name))
                    looks, bound = share(run)
                    self.assertLessEqual(looks, bound)
                    self.assertEqual(bound % (4 * len(plans_of(run.ask()))), 0)

    def test_the_same_history_tells_the_same(self):
        def history(seed):
            chance = random.Random(seed)
            both = TwoHouses(self, chance)
            for _ in range(80):
                chance.choice([both.begin, both.deed, both.loan, both.turn, both.turn, both.share, both.move])()
            return [show_house(house) for house in both.houses], [state(run) for run, _ in both.ended()]

        for seed in range(5):
            self.assertEqual(history(seed), history(seed))


class EachRuleTest(WholeCase):
    """One ask by each rule, each start, in a house, alone, and stopped at each turn: what is told is the same."""

    def test_all_rules(self):
        for seed in range(12):
            with self.subTest(seed=seed):
                chance = random.Random(seed)
                tables, ask = Tables(some_tables(chance, 4)), some_ask(chance)
                wanted = plainly(tables, ask)
                house = House()
                for deed in tables.deeds():
                    house.do(deed)
                rules = [("double",), ("rows", 1), ("rows", 60), ("guess", 1), ("guess", 10)]
                for rule in rules + [("stay", k) for k in range(len(plans_of(ask)))]:
                    house.begin("here", ask, rule=rule, along=True)
                    alone = Run(tables, ask, rule=rule, starts=house.run("here").starts())
                    stopped = taken_up(tables, stand_of(alone))
                    while not alone.is_done():
                        told = alone.turn()
                        self.assertEqual(house.turn("here"), told)
                        stopped = taken_up(tables, stand_of(stopped))
                        self.assertEqual(stopped.turn(), told)
                    self.assertEqual(state(house.run("here")), state(alone))
                    self.assertEqual(state(stopped), state(alone))
                    self.assertEqual(alone.answer(), wanted)
                    self.check_done(alone, tables)
                    house.let_go("here")
                    house.share(chance.choice("abc"))


class OwnTest(unittest.TestCase):
    """What is handed in is copied, and what is told is the asker's own, over several files."""

    ASK = ((("with", "p", "a", ()),), (), ("rows", (("cell", "p", "x"),)), (), None, False)

    def house(self):
        house = House()
        house.do(("table", "a", ("x",)))
        for worth in (4, 5, 6):
            house.do(("row", "a", (worth,)))
        house.begin("one", self.ASK, rule=("stay", 0))
        house.turn("one")
        return house

    def test_told_things_are_bent(self):
        house = self.house()
        wanted = show_house(house)
        house.names().append("two")
        house.tables().deeds().clear()
        house.tables().rows("a").clear()
        run = house.run("one")
        for told in (run.told(), run.slabs(), run.visits()):
            told.append(None)
        run.turn()
        self.assertEqual(show_house(house), wanted)
        for told in (house.turn("one"), house.share("a")):
            told.append(None)
        self.assertEqual(house.run("one").told(), [("row", (4,), (0,))])

    def test_a_stand_serves_again_and_again(self):
        house = self.house()
        stand = house.stop("one")
        text = show_stand(stand)
        for name in ("one", "two", "three"):
            house.take_up(name, stand)
            house.turn(name)
            house.lend(name, 2)
        self.assertEqual(show_stand(stand), text)
        self.assertEqual([house.run(name).told() for name in house.names()], [[("row", (4,), (0,))]] * 3)

    def test_a_watched_run_is_stopped_behind_its_turn(self):
        house = self.house()
        refused = []
        run = taken_up(house.tables(), house.stop("one"),
                       watcher=lambda told: refused.append(refusal(stand_of, run).__class__))
        run.turn()
        self.assertEqual(refused, [Busy])
        house.take_up("one", stand_of(run))
        self.assertEqual(house.turn("one"), [("row", (5,), (1,))])
        self.assertEqual(refused, [Busy])

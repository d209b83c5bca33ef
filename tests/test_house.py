import random
import unittest

from helper import (THINGS, Plain, begun_again, refusal, some_ask, some_deed, some_rule, some_tables, state, ties,
                    to_the_end)
from plansamid.errors import (Done, NoAsk, NoDeed, NoName, NoPlace, NoRoom, NoRule, NoStand, Taken, TooMany, Unknown,
                              Unlike)
from plansamid.house import House
from plansamid.plainly import plainly
from plansamid.runs import Run
from plansamid.stands import stand_of
from plansamid.tables import Tables


def cell(alias, column):
    return ("cell", alias, column)


# p: 0 (1, 5), 1 (2, 6), 2 (1, 7); q: 0 (1, 0), 1 (2, 1), 2 (1, 2), 3 (3, 3)
DEEDS = [("table", "a", ("x", "y")), ("row", "a", (1, 5)), ("row", "a", (2, 6)), ("row", "a", (1, 7)),
         ("table", "b", ("x", "z")), ("row", "b", (1, 0)), ("row", "b", (2, 1)), ("row", "b", (1, 2)),
         ("row", "b", (3, 3)), ("table", "c", ("x",))]
P = ("with", "p", "a", ())
Q = ("with", "q", "b", (("x", "p", "x"),))
YZ = ("rows", (cell("p", "y"), cell("q", "z")))
JOINED = ((P, Q), (), YZ, (), None, False)
LONE = ((P,), (), ("rows", (cell("p", "y"),)), (), None, False)
LONE_B = ((("with", "q", "b", ()),), (), ("rows", (cell("q", "z"),)), (), None, False)
SORTED = JOINED[:3] + (((0, "down"),), None, False)
NOT_RIGHT = ((P, ("with", "q", "e", ())),) + JOINED[1:]
NO_NAMES = THINGS + ["A", "abcdefghi", "a b", "a\n", b"a", ("a",), ["a"], {"a"}]
NO_NAMES = [thing for thing in NO_NAMES if thing not in ("a", "cell", "table", "lacking", "with")]


def house_of(deeds=tuple(DEEDS), **more):
    house = House(**more)
    for deed in deeds:
        house.do(deed)
    return house


def told_of(house):
    """All that a house tells."""
    tables = house.tables()
    runs = [state(house.run(name)) for name in house.names()]
    return (len(house), house.names(), house.saved(), tables.deeds(), runs,
            [house.next_row(table) for table in tables.names()])


def field_of(error):
    return [getattr(error, name) for name in ("name", "most", "what", "number") if hasattr(error, name)]


class HouseCase(unittest.TestCase):

    def check_refused(self, house, kind, fields, do, *args, **more):
        before = told_of(house)
        error = refusal(do, *args, **more)
        self.assertEqual((error.__class__, field_of(error)), (kind, fields))
        self.assertEqual(told_of(house), before)


class DeedTest(HouseCase):

    def test_it_does_the_deeds_of_its_tables(self):
        house = House()
        self.assertEqual((house.tables(), house.tables().__class__), (Tables(), Tables))
        self.assertIsNone(house.do(("table", "a", ("x",))))
        self.assertEqual(house.do(("row", "a", (4,))), 0)
        self.assertEqual(house.do(deed=("row", "a", (5,))), 1)
        self.assertIsNone(house.do(("out", "a", 0)))
        self.assertEqual(house.tables().rows("a"), [(1, (5,))])
        for deed, kind, fields in ((None, NoDeed, []), (("row", "a", ()), NoDeed, []),
                                   (("row", "b", (1,)), Unknown, ["b"]), (("table", "a", ("x",)), Taken, ["a"]),
                                   (("out", "a", 0), NoPlace, [0])):
            self.check_refused(house, kind, fields, house.do, deed)

    def test_what_is_done_to_its_tables_is_done_to_it(self):
        house = House()
        house.tables().do(("table", "a", ("x", "y")))
        house.tables().do(("row", "a", (1, 5)))
        self.assertIs(house.tables(), house.tables())
        house.begin("one", LONE)
        self.assertEqual(house.do(("row", "a", (2, 6))), 1)
        self.assertEqual(house.next_row("a"), 0)
        house.share("a")
        self.assertEqual(house.next_row("a"), 1)
        self.assertEqual((house.run("one").moment(), house.tables().moment()), (2, 3))
        # Two houses have nothing of one another.
        self.assertEqual(House().tables(), Tables())


class BeginTest(HouseCase):

    def test_it_begins_at_the_moment_now(self):
        house = house_of()
        self.assertEqual((len(house), house.names(), house.saved()), (0, [], (0, 0)))
        self.assertIsNone(house.begin("two", JOINED))
        self.assertIsNone(house.begin(name="one", ask=SORTED, rule=("stay", 1), rooms=3, hand=2, along=False))
        self.assertEqual((len(house), house.names()), (2, ["one", "two"]))
        self.assertEqual(state(house.run("two")), state(Run(house.tables(), JOINED)))
        self.assertEqual(state(house.run("one")), state(Run(house.tables(), SORTED, rule=("stay", 1), rooms=3, hand=2)))
        self.assertEqual((house.run("one").ask(), house.run("one").rule()), (SORTED, ("stay", 1)))
        self.assertEqual(house.run("two").rule(), ("double",))
        house.do(("row", "a", (1, 9)))
        house.begin("late", JOINED)
        self.assertEqual([house.run(name).moment() for name in house.names()], [len(DEEDS) + 1, len(DEEDS), len(DEEDS)])
        self.assertRaises(TypeError, house.begin, "x", JOINED, ("double",))
        self.assertRaises(TypeError, House, 3)
        house.names().clear()
        self.assertEqual(house.names(), ["late", "one", "two"])

    def test_each_refusal_in_its_order(self):
        house = house_of()
        house.begin("a", JOINED)
        wrong = {"rule": None, "rooms": 81}
        for name in NO_NAMES:
            for ask in (JOINED, None):
                self.check_refused(house, NoName, [], house.begin, name, ask, **wrong)
        for ask in (JOINED, None, NOT_RIGHT):
            self.check_refused(house, Taken, ["a"], house.begin, "a", ask, **wrong)
        for ask in THINGS:
            self.check_refused(house, NoAsk, [None], house.begin, "b", ask, **wrong)
        self.check_refused(house, NoAsk, ["e"], house.begin, "b", NOT_RIGHT, **wrong)
        for rule in THINGS + [("stay", 4), ("rows", 0), ["double"]]:
            self.check_refused(house, NoRule, [], house.begin, "b", JOINED, rule=rule, rooms=81)
        self.check_refused(house, NoRoom, [], house.begin, "b", JOINED, rooms=81)
        self.assertIsNone(refusal(house.begin, "b", JOINED, rooms=80))

    def test_along_the_same_refusals_go_ahead_of_the_starts(self):
        house = house_of()
        house.begin("a", JOINED)
        wrong = {"rule": None, "rooms": 81, "along": True}
        self.check_refused(house, NoName, [], house.begin, None, None, **wrong)
        self.check_refused(house, Taken, ["a"], house.begin, "a", None, **wrong)
        for ask in THINGS:
            self.check_refused(house, NoAsk, [None], house.begin, "b", ask, **wrong)
        self.check_refused(house, NoAsk, ["e"], house.begin, "b", NOT_RIGHT, **wrong)
        self.check_refused(house, NoRule, [], house.begin, "b", JOINED, **wrong)
        self.check_refused(house, NoRoom, [], house.begin, "b", JOINED, rooms=81, along=True)

    def test_eight_run(self):
        house = house_of(rooms=50)
        for name in "abcdefgh":
            house.begin(name, JOINED, rooms=3)
        self.assertEqual((len(house), house.names()), (8, list("abcdefgh")))
        for ask, rule in ((None, None), (JOINED, None), (NOT_RIGHT, ("double",)), (JOINED, ("double",))):
            self.check_refused(house, TooMany, [8], house.begin, "i", ask, rule=rule, rooms=99)
        self.check_refused(house, Taken, ["h"], house.begin, "h", JOINED)
        self.check_refused(house, NoName, [], house.begin, "", JOINED)
        house.let_go("c")
        house.begin("i", JOINED)
        self.assertEqual(house.names(), list("abdefghi"))

    def test_rooms_just_as_many_and_one_more(self):
        for rooms in (0, 1, 30):
            house = house_of(rooms=rooms)
            self.check_refused(house, NoRoom, [], house.begin, "a", JOINED, rooms=rooms + 1)
            house.begin("a", JOINED, rooms=rooms)
            self.check_refused(house, NoRoom, [], house.begin, "b", JOINED, rooms=1)
            house.begin("b", JOINED, rooms=0)
        house = house_of()
        for name in "abcde":
            house.begin(name, JOINED)
        self.check_refused(house, NoRoom, [], house.begin, "f", JOINED, rooms=1)
        house.begin("f", JOINED, rooms=0)


class UnknownTest(HouseCase):

    def test_of_names_by_which_none_runs(self):
        house = house_of()
        house.begin("a", JOINED)
        # A table has this name.
        for name in NO_NAMES + ["b", "abcdefgh", "aa"]:
            fields = [name if isinstance(name, str) else None]
            for do, *more in ((house.turn,), (house.lend, 1), (house.call_back, 99), (house.let_go,), (house.stop,),
                              (house.run,), (house.lend, 99)):
                self.check_refused(house, Unknown, fields, do, name, *more)

    def test_of_names_that_were_let_go_or_stopped(self):
        house = house_of()
        for leave in (house.let_go, house.stop):
            house.begin("a", JOINED)
            leave(name="a")
            self.assertEqual((len(house), house.names()), (0, []))
            self.check_refused(house, Unknown, ["a"], house.turn, "a")
            self.check_refused(house, Unknown, ["a"], leave, "a")

    def test_of_the_name_of_no_table(self):
        house = house_of()
        house.begin("one", JOINED)
        for name in NO_NAMES + ["one", "abcdefgh", "d"]:
            fields = [name if isinstance(name, str) else None]
            for do in (house.share, house.next_row):
                self.check_refused(house, Unknown, fields, do, name)


class TurnTest(HouseCase):

    def test_turns_are_those_of_the_run_alone(self):
        house = house_of()
        house.begin("one", JOINED)
        house.begin("two", SORTED, rule=("stay", 0), rooms=3)
        alone = {"one": Run(house.tables(), JOINED), "two": Run(house.tables(), SORTED, rule=("stay", 0), rooms=3)}
        for name in ("one", "two", "two") * 30:
            if alone[name].is_done():
                self.check_refused(house, Done, [], house.turn, name)
            else:
                self.assertEqual(house.turn(name=name), alone[name].turn())
            self.assertEqual(state(house.run(name)), state(alone[name]))
        house.do(("row", "b", (1, 9)))
        while not alone["one"].is_done():
            self.assertEqual(house.turn("one"), alone["one"].turn())
        self.assertEqual(house.run("one").answer(), plainly(Tables(DEEDS), JOINED))

    def test_what_a_turn_tells_is_the_askers_own(self):
        house = house_of()
        house.begin("one", JOINED, rule=("stay", 0))
        house.turn("one")
        house.turn("one").clear()
        self.assertEqual(len(house.run("one").told()), 2)

    def test_a_told_run_goes_on_by_itself(self):
        house = house_of()
        for ask in (JOINED, SORTED):
            house.begin("one", ask, rule=("rows", 1))
            for _ in range(3):
                house.turn("one")
            before = told_of(house)
            told = house.run(name="one")
            self.assertEqual(told.__class__, Run)
            wanted = state(told)
            told.lend(50)
            told.lend_hand(1)
            to_the_end(told)
            told.tables().do(("row", "a", (7, 7)))
            self.assertEqual(told_of(house), before)
            self.assertEqual(told.answer(), plainly(house.tables(), ask))
            told = house.run("one")
            house.turn("one")
            house.lend("one", 3)
            self.assertEqual(state(told), wanted)
            house.let_go("one")
            self.assertEqual(state(told), wanted)
            self.assertEqual(to_the_end(told).answer(), plainly(house.tables(), ask))

    def test_deeds_done_later_do_not_show_in_a_told_run(self):
        house = house_of()
        house.begin("one", JOINED)
        told = house.run("one")
        self.assertEqual(told.tables(), house.tables())
        house.do(("row", "a", (1, 1)))
        self.assertEqual(told.tables(), Tables(DEEDS))


class LoanTest(HouseCase):

    def test_what_they_have_together_is_no_more_than_the_house_has(self):
        house = house_of(rooms=30)
        house.begin("a", JOINED, rooms=10)
        house.begin("b", JOINED, rooms=15)
        for name in ("a", "b"):
            self.check_refused(house, NoRoom, [], house.lend, name, 6)
            self.check_refused(house, NoRoom, [], house.lend, name, 10 ** 30)
        self.assertIsNone(house.lend(name="a", n=5))
        self.check_refused(house, NoRoom, [], house.lend, "b", 1)
        self.assertIsNone(house.lend("b", 0))
        self.assertEqual([house.run(name).rooms() for name in "ab"], [15, 15])
        self.check_refused(house, NoRoom, [], house.call_back, "a", 16)
        self.assertIsNone(house.call_back(name="a", n=15))
        self.check_refused(house, NoRoom, [], house.call_back, "a", 1)
        house.lend("b", 15)
        self.assertEqual([house.run(name).rooms() for name in "ab"], [0, 30])
        self.check_refused(house, NoRoom, [], house.begin, "c", JOINED, rooms=1)

    def test_called_back_amid_a_visit(self):
        house = house_of()
        house.begin("a", JOINED, rule=("stay", 0))
        house.turn("a")
        house.call_back("a", 17)
        house.turn("a")
        # b has four rows: it is walked from then on.
        self.assertEqual(house.run("a").looks(), 5 + 1 + 4)

    def test_rooms_are_free_again(self):
        for turns in (0, 3, 99):
            house = house_of(rooms=20)
            for leave in (house.let_go, house.stop):
                house.begin("a", JOINED, rule=("stay", 0))
                for _ in range(turns):
                    if not house.run("a").is_done():
                        house.turn("a")
                self.check_refused(house, NoRoom, [], house.begin, "b", JOINED, rooms=1)
                leave("a")
                house.begin("b", JOINED, rooms=20)
                house.call_back("b", 19)
                house.begin("a", JOINED, rooms=19)
                house.let_go("a")
                self.assertIsNone(house.let_go("b"))

    def test_of_a_run_that_is_done(self):
        house = house_of(rooms=25)
        house.begin("a", LONE, rule=("stay", 0))
        while not house.run("a").is_done():
            house.turn("a")
        house.lend("a", 5)
        self.check_refused(house, NoRoom, [], house.lend, "a", 1)
        house.call_back("a", 25)
        self.assertEqual(house.run("a").rooms(), 0)


class WalkTest(HouseCase):

    def walk(self, house, table, numbers):
        for number in numbers:
            self.assertEqual(house.next_row(table=table), number)
            self.assertEqual(house.share(table=table), [])

    def test_from_the_last_row_round_to_the_first(self):
        house = house_of()
        self.walk(house, "a", (0, 1, 2, 0, 1))
        self.walk(house, "b", (0, 1, 2, 3, 0))
        self.assertEqual((house.next_row("a"), house.next_row("b"), house.saved()), (2, 1, (0, 0)))

    def test_rows_put_behind_the_end_and_rows_that_are_out(self):
        house = house_of()
        self.walk(house, "a", (0, 1, 2))
        self.assertEqual(house.next_row("a"), 0)
        house.do(("row", "a", (9, 9)))
        self.assertEqual(house.next_row("a"), 3)
        house.do(("out", "a", 0))
        house.do(("out", "a", 3))
        self.walk(house, "a", (3, 0, 1))
        house.do(("out", "a", 2))
        self.walk(house, "a", (2, 3, 0))

    def test_a_table_that_never_had_a_row(self):
        house = house_of()
        ask = ((("with", "r", "c", ()),), (), ("rows", (cell("r", "x"),)), (), None, False)
        house.begin("one", ask)
        self.walk(house, "c", (0, 0, 0))
        house.do(("row", "c", (1,)))
        self.walk(house, "c", (0, 0))
        house.do(("row", "c", (1,)))
        self.walk(house, "c", (1,))
        # One that had rows which are all out is walked.
        house.do(("out", "c", 0))
        house.do(("out", "c", 1))
        self.walk(house, "c", (0, 1, 0))

    def test_each_open_visit_that_would_lead_the_very_row(self):
        house = house_of()
        # The open visits of one and two lead a, that of three b.
        house.begin("two", LONE, rule=("stay", 0))
        house.begin("one", JOINED, rule=("stay", 0))
        house.begin("three", JOINED, rule=("stay", 2))
        self.assertEqual(house.share("a"), [])
        for name in ("one", "two", "three"):
            house.turn(name)
        # Row 1 is next, they would lead row 0.
        self.walk(house, "a", (1, 2))
        self.assertEqual(house.saved()[0], 0)
        self.assertEqual(house.share("a"), [("one", [("row", (5, 0), (0, 0)), ("row", (5, 2), (0, 2))]),
                                            ("two", [("row", (5,), (0,))])])
        self.assertEqual(house.saved()[0], 1)
        house.turn("two")
        self.assertEqual(house.share("a"), [("one", [("row", (6, 1), (1, 1))])])
        self.assertEqual(house.saved()[0], 1)
        told = house.share("a")
        self.assertEqual(told, [("one", [("row", (7, 0), (2, 0)), ("row", (7, 2), (2, 2))]),
                                ("two", [("row", (7,), (2,))])])
        self.assertEqual(house.saved()[0], 2)
        # Both are done, and three leads b.
        self.walk(house, "a", (0, 1, 2, 0))
        self.assertEqual(house.share("b"), [("three", [("row", (5, 0), (0, 0)), ("row", (7, 0), (2, 0))])])
        self.assertEqual(house.saved()[0], 2)
        self.assertEqual([house.run(name).is_done() for name in house.names()], [True, False, True])
        told.clear()

    def test_what_is_told_is_the_askers_own(self):
        house = house_of()
        house.begin("one", LONE, rule=("stay", 0))
        house.turn("one")
        told = house.share("a")
        told[0][1].clear()
        told.clear()
        self.assertEqual(house.run("one").told(), [("row", (5,), (0,))])

    def test_three_at_once_save_two_reads(self):
        house = house_of()
        for name in ("c", "a", "b"):
            house.begin(name, LONE, rule=("stay", 0))
            house.turn(name)
        for many in (2, 4, 6):
            self.assertEqual([name for name, told in house.share("a")], ["a", "b", "c"])
            self.assertEqual(house.saved(), (many, 0))
        self.assertEqual((house.share("a"), house.saved()), ([], (6, 0)))

    def test_a_row_that_the_budget_does_not_let_be_led(self):
        house = house_of()
        house.begin("one", JOINED)
        # Round 1 of the one that doubles: 1 look for the visit of the walked plan, 4 for row 0 of p are too many.
        while house.run("one").now_plan() is None:
            house.turn("one")
        self.assertEqual(house.run("one").looks(), 7)
        self.assertEqual(house.share("a"), [("one", [])])
        self.assertEqual((house.run("one").looks(), house.run("one").now_plan()), (8, None))
        # No visit is open.
        self.walk(house, "a", (1, 2, 0, 1))

    def test_an_elder_moment(self):
        house = house_of()
        house.begin("old", LONE, rule=("stay", 0))
        house.do(("out", "a", 0))
        house.do(("row", "a", (8, 8)))
        house.begin("new", LONE, rule=("stay", 0))
        house.turn("old")
        house.turn("new")
        told = [house.share("a") for _ in range(4)]
        self.assertEqual([[name for name, one in turn] for turn in told],
                         [["old"], ["new", "old"], ["new", "old"], ["new"]])
        self.assertEqual(told[3], [("new", [("row", (8,), (3,))])])
        self.assertEqual(house.saved()[0], 2)

    def test_a_turn_by_name_does_not_move_the_walk(self):
        house = house_of()
        house.begin("one", LONE, rule=("stay", 0))
        house.turn("one")
        house.turn("one")
        self.assertEqual(house.next_row("a"), 0)
        self.walk(house, "a", (0,))
        self.assertEqual(house.share("a"), [("one", [("row", (6,), (1,))])])


class AlongTest(HouseCase):

    def starts(self, house, ask):
        house.begin("along", ask, along=True, rooms=0)
        starts = house.run("along").starts()
        house.let_go("along")
        return starts

    def test_starts_of_each_joined_source(self):
        house = house_of()
        twice = ((P, Q, ("with", "r", "a", ())),) + JOINED[1:]
        wanted = [((0, 0), (0, 0, 0)), ((1, 0), (1, 0, 1)), ((2, 0), (2, 0, 2)), ((0, 0), (0, 0, 0))]
        for two, three in wanted:
            self.assertEqual(self.starts(house, JOINED), two)
            self.assertEqual(self.starts(house, twice), three)
            house.share("a")
        house.share("b")
        house.share("b")
        self.assertEqual((self.starts(house, JOINED), self.starts(house, twice)), ((1, 2), (1, 2, 1)))
        house.begin("apart", JOINED)
        self.assertEqual(house.run("apart").starts(), (0, 0))
        other = ((P, ("none", "t", "b", ()), ("perhaps", "s", "b", ())),) + LONE[1:]
        self.assertEqual(self.starts(house, other), (1,))

    def test_rows_that_are_out(self):
        house = house_of()
        house.do(("out", "a", 1))
        house.share("a")
        # Row 1 is next, the first not less than that is row 2, the second of those that are there.
        self.assertEqual(self.starts(house, LONE), (1,))
        house.do(("out", "a", 2))
        self.assertEqual(self.starts(house, LONE), (0,))
        house.share("a")
        self.assertEqual((house.next_row("a"), self.starts(house, LONE)), (2, (0,)))
        house.do(("row", "a", (1, 1)))
        self.assertEqual(self.starts(house, LONE), (1,))
        house.do(("out", "a", 0))
        self.assertEqual(self.starts(house, LONE), (0,))

    def test_of_no_rows(self):
        house = house_of()
        ask = ((P, ("with", "r", "c", ())), (), ("rows", (cell("p", "y"),)), (), None, False)
        house.share("a")
        self.assertEqual(self.starts(house, ask), (1, 0))
        house.begin("one", ask, along=True)
        self.assertTrue(house.run("one").is_done())

    def test_it_goes_along_with_the_walk(self):
        house = house_of()
        house.share("a")
        house.begin("one", LONE, rule=("stay", 0), along=True)
        house.begin("two", LONE, rule=("stay", 0))
        house.turn("one")
        house.turn("two")
        told = [house.share("a") for _ in range(3)]
        self.assertEqual(told, [[("one", [("row", (6,), (1,))])], [("one", [("row", (7,), (2,))])],
                                [("one", [("row", (5,), (0,))]), ("two", [("row", (5,), (0,))])]])
        self.assertEqual(house.run("one").answer(), plainly(house.tables(), LONE))
        self.assertEqual(house.saved()[0], 1)


class SavedLooksTest(HouseCase):

    def begun(self, house, name, ask, **more):
        """How many looks are saved by the first visit."""
        before = house.saved()[1]
        house.begin(name, ask, **more)
        house.turn(name)
        return house.saved()[1] - before

    def test_by_table_and_the_links_column(self):
        house = house_of()
        stay = {"rule": ("stay", 0), "rooms": 9}
        self.assertEqual(self.begun(house, "a", JOINED, **stay), 0)
        self.assertEqual(self.begun(house, "b", JOINED, **stay), 4)
        by_z = ((P, ("with", "q", "b", (("z", "p", "x"),))),) + JOINED[1:]
        self.assertEqual(self.begun(house, "c", by_z, **stay), 0)
        # Another alias of the same table, linked by the same column to another one.
        other = ((P, ("perhaps", "s", "b", (("x", "p", "y"), ("z", "p", "x")))), (), ("rows", (cell("p", "y"),)), (),
                 None, False)
        self.assertEqual(self.begun(house, "d", other, **stay), 4)
        # By the third plan q leads, and a is kept by x.
        self.assertEqual(self.begun(house, "e", JOINED, rule=("stay", 2), rooms=9), 0)
        self.assertEqual(self.begun(house, "f", JOINED, rule=("stay", 2), rooms=9), 3)
        self.assertEqual(house.saved(), (0, 11))

    def test_walked_ones_save_nothing(self):
        house = house_of()
        self.assertEqual(self.begun(house, "a", JOINED, rule=("stay", 0), rooms=9), 0)
        self.assertEqual(self.begun(house, "b", JOINED, rule=("stay", 1), rooms=9), 0)
        self.assertEqual(self.begun(house, "c", JOINED, rule=("stay", 0), rooms=3), 0)
        self.assertEqual(self.begun(house, "d", JOINED, rule=("stay", 0), rooms=4), 4)
        # Without rooms nothing is made either.
        house = house_of()
        self.assertEqual(self.begun(house, "a", JOINED, rule=("stay", 0), rooms=3), 0)
        self.assertEqual(self.begun(house, "b", JOINED, rule=("stay", 0), rooms=4), 0)
        self.assertEqual(self.begun(house, "c", JOINED, rule=("stay", 0), rooms=4), 4)

    def test_two_sources_of_one_visit(self):
        ask = ((P, Q, ("none", "t", "b", (("x", "p", "y"),))), (), YZ, (), None, False)
        house = house_of()
        # The second one finds what the first one made.
        self.assertEqual(self.begun(house, "a", ask, rule=("stay", 0)), 4)
        self.assertEqual(self.begun(house, "b", ask, rule=("stay", 0)), 8)
        self.assertEqual(self.begun(house, "c", ask, rule=("stay", 0), rooms=7), 4)

    def test_elder_and_later_moments(self):
        house = house_of()
        stay = {"rule": ("stay", 0), "rooms": 9}
        house.begin("old", JOINED, **stay)
        house.do(("out", "b", 0))
        house.do(("out", "b", 1))
        # Made at the moment now, two rows are there; the elder moment of four is served, too.
        self.assertEqual(self.begun(house, "new", JOINED, **stay), 0)
        house.turn("old")
        self.assertEqual(house.saved(), (0, 4))
        self.assertEqual(self.begun(house, "more", JOINED, **stay), 2)
        house.do(("row", "a", (5, 5)))
        # Any deed makes the moment later: made anew, in the place of the elder ones.
        self.assertEqual(self.begun(house, "late", JOINED, **stay), 0)
        self.assertEqual(self.begun(house, "last", JOINED, **stay), 2)

    def test_an_elder_run_makes_them_at_the_moment_now(self):
        house = house_of()
        stay = {"rule": ("stay", 0), "rooms": 9}
        house.begin("old", JOINED, **stay)
        house.do(("row", "b", (1, 1)))
        house.begin("new", JOINED, **stay)
        house.turn("old")
        self.assertEqual(house.saved(), (0, 0))
        house.turn("new")
        self.assertEqual(house.saved(), (0, 5))

    def test_first_looks_more_than_the_budget_keep_nothing(self):
        house = house_of()
        house.begin("double", JOINED)
        # Rounds 0 and 1, and of round 2 the first plan, which would take 5 of 4 looks; a is of three rows.
        while len(house.run("double").visits()) < 9:
            house.turn("double")
        self.assertEqual(house.saved(), (0, 0))
        self.assertEqual(self.begun(house, "a", JOINED, rule=("stay", 0)), 0)
        # The one of q as the lead takes just its budget of 4: it keeps a, and ends.
        house.let_go("a")
        while len(house.run("double").visits()) < 11:
            house.turn("double")
        self.assertIsNone(house.run("double").now_plan())
        self.assertEqual(house.saved(), (0, 0))
        self.assertEqual(self.begun(house, "b", JOINED, rule=("stay", 2)), 3)
        self.assertEqual(self.begun(house, "c", JOINED, rule=("stay", 0)), 4)

    def test_each_visit_of_a_run_by_itself(self):
        house = house_of()
        house.begin("one", JOINED, rule=("rows", 1))
        saved = []
        while not house.run("one").is_done():
            house.turn("one")
            saved.append(house.saved()[1])
        # b and a are made, b is saved in the next round: see the visits of the rule in test_runs.
        self.assertEqual(saved, sorted(saved))
        plans = [((0, 1), "kept"), ((0, 1), "walked"), ((1, 0), "kept"), ((1, 0), "walked"), ((0, 1), "kept")]
        self.assertEqual((saved[-1], [visit[0] for visit in house.run("one").visits()]), (4, plans))

    def test_looks_of_the_run_are_those_that_it_takes_alone(self):
        house = house_of()
        for name in "ab":
            self.begun(house, name, JOINED, rule=("stay", 0))
            self.assertEqual(house.run(name).looks(), 5)

    def test_what_is_let_go_stays_kept(self):
        house = house_of()
        self.begun(house, "a", JOINED, rule=("stay", 0))
        house.let_go("a")
        self.assertEqual(self.begun(house, "a", JOINED, rule=("stay", 0)), 4)


class StopTest(HouseCase):

    def test_stopped_and_taken_up_at_each_turn(self):
        for ask in (JOINED, SORTED, LONE):
            house, other = house_of(), house_of()
            house.begin("one", ask, rule=("rows", 1))
            alone = Run(Tables(DEEDS), ask, rule=("rows", 1))
            here, there, name = house, other, "one"
            while not alone.is_done():
                stand = here.stop(name=name)
                self.assertEqual(stand, stand_of(alone))
                self.assertEqual(len(here), 0)
                here, there, name = there, here, name + "x" if len(name) < 8 else "a"
                self.assertIsNone(here.take_up(name=name, stand=stand))
                self.assertEqual(here.names(), [name])
                here.do(("row", "b", (1, 1)))
                self.assertEqual(here.turn(name), alone.turn())
                self.assertEqual(state(here.run(name)), state(alone))
                if not alone.is_done() and alone.now_plan() is not None:
                    self.assertEqual(here.run(name).now_plan(), alone.now_plan())
            here.take_up("done", here.stop(name))
            self.check_refused(here, Done, [], here.turn, "done")

    def test_each_refusal_in_its_order(self):
        house = house_of(rooms=50)
        run = Run(house.tables(), JOINED, rooms=11)
        stand, wide = stand_of(run), stand_of(Run(house.tables(), JOINED, rooms=51))
        for name in "ab":
            house.begin(name, JOINED)
        for thing in (None, (), stand):
            for name in NO_NAMES:
                self.check_refused(house, NoName, [], house.take_up, name, thing)
            self.check_refused(house, Taken, ["a"], house.take_up, "a", thing)
        for thing in THINGS:
            self.check_refused(house, NoStand, [], house.take_up, "c", thing)
        self.check_refused(house, NoRoom, [], house.take_up, "c", stand)
        house.call_back("a", 1)
        house.take_up("c", stand)
        self.assertEqual(house.names(), ["a", "b", "c"])
        for name in "defgh":
            house.begin(name, JOINED, rooms=0)
        for thing in (None, stand, wide):
            self.check_refused(house, TooMany, [8], house.take_up, "i", thing)
        house = House(rooms=50)
        self.check_refused(house, Unlike, [], house.take_up, "a", wide)
        for _ in range(2):
            house.do(("table", "b" if len(house.tables()) else "c", ("x",)))
        for number in range(20):
            house.do(("row", "b", (number,)))
        self.check_refused(house, NoAsk, ["a"], house.take_up, "a", wide)
        house = house_of(DEEDS[:8] + [("row", "b", (4, 4)), DEEDS[9]], rooms=50)
        self.check_refused(house, Unlike, [], house.take_up, "a", wide)
        house = house_of(rooms=50)
        self.check_refused(house, NoRoom, [], house.take_up, "a", wide)
        self.assertIsNone(refusal(house_of(rooms=51).take_up, "a", wide))

    def test_of_what_is_taken_up_amid_a_visit_nothing_is_saved(self):
        house = house_of()
        for name in "ab":
            house.begin(name, JOINED, rule=("stay", 0))
        house.turn("a")
        house.take_up("c", house.stop("a"))
        house.turn("c")
        self.assertEqual(house.saved(), (0, 0))
        house.turn("b")
        self.assertEqual(house.saved(), (0, 4))

    def test_it_goes_along_with_the_walk_again(self):
        house = house_of()
        house.share("a")
        house.begin("one", LONE, rule=("stay", 0), along=True)
        house.turn("one")
        stand = house.stop("one")
        self.assertEqual(house.share("a"), [])
        house.take_up("two", stand)
        told = [house.share("a") for _ in range(3)]
        self.assertEqual(told, [[], [], [("two", [("row", (6,), (1,))])]])
        self.assertEqual(house.run("two").starts(), (1,))


class Beside:
    """What a house should tell, reckoned by its runs alone."""

    def __init__(self, house):
        self.house = house
        self.alone = {}
        self.last = {}
        self.made = {}
        self.saved = [0, 0]

    def ever(self, table):
        return len([deed for deed in self.house.tables().deeds() if deed[:2] == ("row", table)])

    def next_row(self, table):
        number = self.last[table] + 1 if table in self.last else 0
        return number if number < self.ever(table) else 0

    def starts(self, ask):
        starts = []
        for way, _, table, _ in ask[0]:
            if way == "with":
                numbers = [number for number, _ in self.house.tables().rows(table)]
                behind = [number for number in numbers if number >= self.next_row(table)]
                starts.append(numbers.index(behind[0]) if behind else 0)
        return starts

    def would_lead(self, run, table, number):
        plan = run.now_plan()
        if plan is None or run.ask()[0][plan[0][0]][2] != table:
            return False
        numbers = [one for one, _ in run.tables().rows(table, moment=run.moment())]
        start = run.starts()[plan[0][0]]
        done = sum(many for source, many in run.slabs() if source == plan[0][0])
        return (numbers[start:] + numbers[:start])[done] == number

    def turn(self, name):
        run = self.alone[name]
        visits, rooms = len(run.visits()), run.rooms()
        told = run.turn()
        if len(run.visits()) > visits:
            plan, budget, _, _ = run.visits()[-1]
            plain = Plain(run.tables(), run.ask(), run.moment())
            looks, kept = begun_again(plain, plan, rooms)
            if budget is None or looks <= budget:
                for source in kept:
                    self.keep(run, plan, source, len(plain.rows[source]))
        return told

    def keep(self, run, plan, source, rows):
        order = plan[0]
        ahead = order[:order.index(source)] if source in order else order
        key = (run.ask()[0][source][2], ties(run.ask()[0], source, ahead)[0][0])
        if self.made.get(key, -1) >= run.moment():
            self.saved[1] += rows
        else:
            self.made[key] = self.house.tables().moment()

    def share(self, table):
        if not self.ever(table):
            return []
        number = self.next_row(table)
        self.last[table] = number
        names = [name for name in sorted(self.alone) if self.would_lead(self.alone[name], table, number)]
        self.saved[0] += max(len(names) - 1, 0)
        return [(name, self.turn(name)) for name in names]


class HistoryTest(HouseCase):
    """Histories by seeded chance, each run beside the very same one alone."""

    def test_histories(self):
        saved = [0, 0]
        for seed in range(60):
            with self.subTest(seed=seed):
                many = self.history(random.Random(seed))
                saved = [saved[0] + many[0], saved[1] + many[1]]
        # They do share.
        self.assertGreater(min(saved), 30)

    def history(self, chance):
        house = house_of(some_tables(chance), rooms=60)
        beside = Beside(house)
        for _ in range(150):
            deed = chance.choice([self.begin] * 2 + [self.turn] * 3 + [self.share] * 4 +
                                 [self.loan, self.deed, self.leave, self.move])
            deed(chance, house, beside)
            self.assertEqual((house.names(), len(house), house.saved()),
                             (sorted(beside.alone), len(beside.alone), tuple(beside.saved)))
            for table in "abc":
                self.assertEqual(house.next_row(table), beside.next_row(table))
        for name in house.names():
            while not beside.alone[name].is_done():
                self.assertEqual(house.turn(name), beside.turn(name))
            run = house.run(name)
            self.assertEqual(state(run), state(beside.alone[name]))
            self.assertEqual(run.answer(), plainly(house.tables(), run.ask(), moment=run.moment()))
        return house.saved()

    def begin(self, chance, house, beside):
        name, ask = chance.choice("klmnopqrst"), some_ask(chance)
        if chance.randrange(3):
            # Many that go through a lone table along one another.
            ask = ((("with", "p", chance.choice("ab"), ()),), (), ("rows", (cell("p", "x"),)), (), None, False)
        rule, rooms, along = some_rule(chance, ask), chance.randrange(20), chance.choice((True, False))
        starts = beside.starts(ask) if along else None
        error = refusal(house.begin, name, ask, rule=rule, rooms=rooms, hand=3, along=along)
        if name in beside.alone:
            self.assertIs(error.__class__, Taken)
        elif len(beside.alone) == 8:
            self.assertIs(error.__class__, TooMany)
        elif sum(run.rooms() for run in beside.alone.values()) + rooms > 60:
            self.assertIs(error.__class__, NoRoom)
        else:
            self.assertIsNone(error)
            beside.alone[name] = Run(house.tables().twin(), ask, rule=rule, rooms=rooms, hand=3, starts=starts)

    def some_run(self, chance, beside):
        return chance.choice(sorted(beside.alone)) if beside.alone else None

    def turn(self, chance, house, beside):
        name = self.some_run(chance, beside)
        if name is not None and not beside.alone[name].is_done():
            self.assertEqual(house.turn(name), beside.turn(name))
            self.assertEqual(state(house.run(name)), state(beside.alone[name]))

    def share(self, chance, house, beside):
        table = chance.choice("abc")
        self.assertEqual(house.share(table), beside.share(table))

    def loan(self, chance, house, beside):
        name, many = self.some_run(chance, beside), chance.randrange(9)
        if name is None:
            return
        run = beside.alone[name]
        if chance.randrange(2):
            full = sum(one.rooms() for one in beside.alone.values()) + many > 60
            self.assertEqual(refusal(house.lend, name, many).__class__ is NoRoom, full)
            if not full:
                run.lend(many)
        else:
            self.assertEqual(refusal(house.call_back, name, many).__class__, refusal(run.call_back, many).__class__)

    def deed(self, chance, house, beside):
        some_deed(chance, house.tables())

    def leave(self, chance, house, beside):
        name = self.some_run(chance, beside)
        if name is not None and chance.randrange(3) == 0:
            house.let_go(name)
            del beside.alone[name]

    def move(self, chance, house, beside):
        name = self.some_run(chance, beside)
        if name is not None:
            house.take_up("zz", house.stop(name))
            house.take_up(name, house.stop("zz"))

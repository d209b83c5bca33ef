import random
import unittest

from helper import THINGS, deep, refusal, some_ask
from plansamid.asks import is_ask, is_sorted, need_ask
from plansamid.errors import NoAsk
from plansamid.tables import Tables

PX = ("cell", "p", "x")
QY = ("cell", "q", "y")
SOURCES = (("with", "p", "a", ()), ("with", "q", "b", (("x", "p", "x"), ("y", "p", "y"))),
           ("with", "r", "a", (("x", "q", "x"),)),
           ("perhaps", "s", "c", (("x", "r", "y"),)), ("none", "t", "c", (("y", "p", "x"),)))
SIEVES = (("below", PX, QY), ("lacking", ("cell", "s", "x")), ("unlike", PX, ("over", QY, PX)),
          ("alike", PX, ("number", 1)))
ROWS = ("rows", (PX, QY, ("plus", PX, ("number", 2)), ("cell", "s", "y")))
GROUPS = ("groups", (PX, ("cell", "s", "x")), (("count", QY), ("sum", PX), ("least", ("times", QY, QY))))
FULL = (SOURCES, SIEVES, ROWS, ((3, "up"), (0, "down")), 60, True)
GROUPED = (SOURCES, SIEVES, GROUPS, ((4, "down"), (1, "up")), 1, False)
SMALL = ((("with", "p", "a", ()),), (), ("rows", (PX,)), (), None, False)


def with_(ask, at, thing):
    return ask[:at] + (thing,) + ask[at + 1:]


def replaced(thing, path, other):
    if not path:
        return other
    return with_(thing, path[0], replaced(thing[path[0]], path[1:], other))


def at(thing, path):
    return thing if not path else at(thing[path[0]], path[1:])


def paths(thing):
    """The paths to all things within."""
    yield ()
    if isinstance(thing, tuple):
        for number, inner in enumerate(thing):
            for path in paths(inner):
                yield (number,) + path


class AreAsksTest(unittest.TestCase):

    def good(self, ask):
        self.assertIs(is_ask(ask), True, ask)

    def test_of_each_form(self):
        for ask in (FULL, GROUPED, SMALL, with_(FULL, 5, False)):
            self.good(ask)
        for many in (1, 2, 3):
            self.good((SOURCES[:many], (), ("rows", (PX,)), (), None, True))
            self.good((SOURCES[:many] + (("none", "t", "a", ()), ("none", "s", "a", ())), (), ("rows", (PX,)), (),
                       None, True))
            self.good((SOURCES[:many] + (("perhaps", "t", "a", ()), ("perhaps", "s", "a", ())), (), ("rows", (PX,)),
                       (), 5, True))
        self.good(with_(FULL, 0, SOURCES[:3] + (SOURCES[4], SOURCES[3])))
        self.good(with_(SMALL, 0, (("with", "p", "p", ()),)))
        self.good(with_(SMALL, 0, (("with", "p", "a", ()), ("with", "q", "a", (("x", "p", "x"), ("x", "p", "x"))))))

    def test_of_each_telling(self):
        for many in range(1, 5):
            self.good(with_(SMALL, 2, ("rows", (PX,) * many)))
        for keys in range(3):
            for sums in range(1, 4):
                for word in ("count", "sum", "least", "most"):
                    self.good(with_(SMALL, 2, ("groups", (PX,) * keys, ((word, PX),) * sums)))
        self.good(with_(SMALL, 2, ("rows", (("number", 5), ("over", PX, ("number", 0))))))

    def test_of_each_order(self):
        for order in ((), ((0, "up"),), ((0, "down"),), ((1, "up"), (0, "up")), ((3, "down"), (2, "up"))):
            self.good(with_(FULL, 3, order))
        for order in (((0, "up"), (4, "up")), ((3, "down"),)):
            self.good(with_(GROUPED, 3, order))
        for first in (None, 1, 2, 59, 60):
            self.good(with_(FULL, 4, first))
            self.good(with_(GROUPED, 4, first))

    def test_asks_of_the_dozen(self):
        chance = random.Random(9)
        for _ in range(200):
            self.good(some_ask(chance))


class NoAsksTest(unittest.TestCase):

    def bad(self, thing):
        self.assertIs(is_ask(thing), False, thing)

    def test_a_thing_otherwise_at_each_place(self):
        for ask in (FULL, GROUPED, SMALL):
            for path in paths(ask):
                for thing in (True, None, [], {}, "", "Q", "abcdefghi", "q q", -1, 61, 10 ** 30, (), ((),), (None,),
                              deep(19)):
                    if is_fine_there(ask, path, thing):
                        self.assertIs(is_ask(replaced(ask, path, thing)), True, (path, thing))
                    else:
                        self.bad(replaced(ask, path, thing))

    def test_a_list_for_a_tuple_one_more_one_less(self):
        for ask in (FULL, GROUPED, SMALL):
            for path in paths(ask):
                there = at(ask, path)
                if isinstance(there, tuple):
                    self.bad(replaced(ask, path, list(there)))
                    self.bad(replaced(ask, path, there + (None,)))
                    self.bad(replaced(ask, path, there + ((),)))
                if isinstance(there, tuple) and there and isinstance(there[0], str):
                    self.bad(replaced(ask, path, there[:-1]))
                    self.bad(replaced(ask, path, there + there[-1:]))
                    # Pairs begin with a column, of one letter here; all else with a word.
                    if len(there[0]) > 1:
                        self.bad(replaced(ask, path, (there[0] + "s",) + there[1:]))
        for number in range(6):
            self.bad(FULL[:number] + FULL[number + 1:])

    def test_sources(self):
        more = ("with", "u", "a", ())
        for sources in ((), SOURCES[3:], SOURCES[4:], SOURCES[:3] + (more,), (more,) * 2, SOURCES[:2] + (SOURCES[0],),
                        SOURCES + (("none", "u", "a", ()),), SOURCES[:1] + (("none", "t", "a", ()),) * 2,
                        (SOURCES[0], ("perhaps", "s", "c", ()), ("with", "q", "b", ())),
                        (("none", "t", "c", ()), SOURCES[0]), (SOURCES[0], ("without", "q", "b", ())),
                        (SOURCES[0],) + tuple(("none", alias, "a", ()) for alias in "tuv"),
                        (SOURCES[0],) + tuple(("perhaps", alias, "a", ()) for alias in "tuv"),
                        (SOURCES[0], ("perhaps", "p", "a", ()))):
            self.bad(with_(SMALL, 0, sources))

    def test_pairs(self):
        first, second = SOURCES[0], ("perhaps", "s", "c", ())
        for pairs in ((("x", "q", "x"),), (("x", "r", "x"),), (("x", "s", "x"),), (("x", "p", "x"),) * 3, (("x", "p"),),
                      (("x", "p", "x", "x"),), (["x", "p", "x"],), [("x", "p", "x")], (("X", "p", "x"),),
                      (("x", "p", "X"),),
                      (("x", "p", None),), ((1, "p", "x"),), (("x", None, "x"),), (("x", ["p"], "x"),),
                      ("x", "p", "x"), None,
                      (("x", {}, "x"),)):
            self.bad(with_(SMALL, 0, (first, ("with", "q", "b", pairs), ("with", "r", "b", ()))))
        # Of the first one none, of none to one that isn't a "with" one ahead.
        for alias in ("p", "q"):
            self.bad(with_(SMALL, 0, (("with", "p", "a", (("x", alias, "x"),)), ("with", "q", "a", ()))))
        for way in ("perhaps", "none"):
            for alias in ("s", "u", "v"):
                self.bad(with_(SMALL, 0, (first, second, (way, "u", "a", (("x", alias, "x"),)))))
            self.assertIs(is_ask(with_(SMALL, 0, (first, second, (way, "u", "a", (("x", "p", "x"),) * 2)))), True)

    def test_sieves(self):
        for sieves in (SIEVES + (("lacking", PX),), (("lacking", ("cell", "t", "x")),),
                       (("lacking", ("cell", "u", "x")),),
                       (("alike", PX, ("plus", PX, ("cell", "t", "x"))),), (PX,), (("lacking", PX, PX),),
                       ("lacking", PX), None,
                       (("lacking", PX), None)):
            self.bad(with_(FULL, 1, sieves))
        self.bad(with_(SMALL, 1, (("lacking", QY),)))

    def test_telling(self):
        none = ("cell", "t", "x")
        for telling in (("rows", ()), ("rows", (PX,) * 5), ("rows", (none,)), ("rows", (QY,)), ("rows", PX), ("rows",),
                        ("rows", (PX,), ()),
                        ("rows", [PX]), ["rows", (PX,)], ("row", (PX,)), ("groups", ()), ("groups", (), ()),
                        ("groups", (PX,) * 3, (("sum", PX),)),
                        ("groups", (), (("sum", PX),) * 4), ("groups", (), (("total", PX),)),
                        ("groups", (), (("sum", none),)),
                        ("groups", (none,), (("sum", PX),)), ("groups", (), (("sum", QY),)),
                        ("groups", (), (["sum", PX],)),
                        ("groups", (), (("sum",),)), ("groups", (), (("sum", PX, PX),)), ("groups", (), [("sum", PX)]),
                        ("groups", [], (("sum", PX),)), ("groups", (), (("sum", None),)),
                        ("groups", None, (("sum", PX),)),
                        ("groups", (), None), ("groups", (), (None,)), ("groups", (), (("sum", PX),), ()),
                        ("group", (), (("sum", PX),)), (), None,
                        ("groups", (), ("sum", PX)), ("groups", (), ((["sum"], PX),))):
            self.bad((SOURCES[:1] + SOURCES[4:], (), telling, (), None, False))

    def test_order(self):
        for order in (((4, "up"),), ((-1, "up"),), ((0, "up"), (0, "down")), ((0, "up"), (1, "up"), (2, "up")),
                      ((True, "up"),),
                      ((False, "up"),), ((0, "Up"),), ((0, None),), ((None, "up"),), (("0", "up"),), ((0,),),
                      ((0, "up", 1),), ([0, "up"],),
                      [(0, "up")], ((0, ["up"]),), (([0], "up"),), (0, "up"), None, ((10 ** 99, "up"),), (("up", 0),)):
            self.bad(with_(FULL, 3, order))
        for order in (((5, "up"),), ((-1, "down"),), ((4, "up"), (4, "up"))):
            self.bad(with_(GROUPED, 3, order))
        self.bad(with_(SMALL, 3, ((1, "up"),)))

    def test_first_and_struck(self):
        for first in (0, 61, -1, True, False, "1", (), (1,), 10 ** 99):
            self.bad(with_(FULL, 4, first))
            self.bad(with_(GROUPED, 4, first))
        for struck in (0, 1, None, "", (), [], "True"):
            self.bad(with_(FULL, 5, struck))
            self.bad(with_(GROUPED, 5, struck))
        self.bad(with_(GROUPED, 5, True))

    def test_whatever_it_is(self):
        for thing in THINGS:
            self.bad(thing)
            self.bad((thing,) * 6)
            for number in range(6):
                ask = with_(FULL, number, thing)
                self.assertIs(is_ask(ask), is_fine_there(FULL, (number,), thing), ask)
        self.bad(deep(18, FULL))


def is_fine_there(ask, path, thing):
    """Whether an ask stays one with this in the place, for places and things that are tried here."""
    if path == (4,):
        return thing is None or (thing.__class__ is int and 1 <= thing <= 60)
    if path == (5,):
        return isinstance(thing, bool) and (not thing or ask[2][0] == "rows")
    # No sieves, no order, no pairs, no keys may be told instead of any; -1 and 61 are numbers of parts.
    if thing == () and path in ((1,), (3,)):
        return True
    if thing == () and isinstance(thing, tuple) and len(path) == 3 and path[0] == 0 and path[2] == 3:
        return True
    if thing.__class__ is int and at(ask, path[:-1])[:1] == ("number",) and path[-1] == 1:
        return abs(thing) < 10 ** 30
    if path == (2, 1) and thing == () and isinstance(thing, tuple) and ask[2][0] == "groups":
        return (4, "down") not in ask[3]
    return False


class SortedTest(unittest.TestCase):

    def test_is_sorted(self):
        self.assertIs(is_sorted(SMALL), False)
        self.assertIs(is_sorted(with_(SMALL, 5, True)), False)
        self.assertIs(is_sorted(with_(SMALL, 3, ((0, "up"),))), True)
        self.assertIs(is_sorted(with_(SMALL, 4, 60)), True)
        self.assertIs(is_sorted(with_(SMALL, 2, ("groups", (), (("sum", PX),)))), True)
        self.assertIs(is_sorted(FULL), True)
        self.assertIs(is_sorted(GROUPED), True)
        self.assertIs(is_sorted(ask=SMALL), False)


class NeedTest(unittest.TestCase):

    ALL = [("table", "a", ("x", "y")), ("table", "b", ("x", "y")), ("table", "c", ("x", "y"))]

    def needed(self, deeds, ask, moment=None):
        error = refusal(need_ask, Tables(deeds), ask, moment=moment)
        self.assertIs(error.__class__, NoAsk)
        return error.what

    def test_right_ones(self):
        for ask in (FULL, GROUPED, SMALL):
            self.assertIsNone(need_ask(Tables(self.ALL), ask))
            self.assertIsNone(need_ask(tables=Tables(self.ALL), ask=ask, moment=3))
        self.assertIsNone(need_ask(Tables(self.ALL[:1]), SMALL, moment=1))
        chance = random.Random(3)
        for _ in range(50):
            self.assertIsNone(need_ask(Tables(self.ALL), some_ask(chance)))

    def test_moment_by_its_name_alone(self):
        with self.assertRaises(TypeError):
            need_ask(Tables(self.ALL), FULL, 3)

    def test_tables_source_by_source(self):
        self.assertEqual(self.needed([], FULL), "a")
        self.assertEqual(self.needed(self.ALL[1:], FULL), "a")
        self.assertEqual(self.needed(self.ALL[:1], FULL), "b")
        self.assertEqual(self.needed(self.ALL[:2], FULL), "c")
        only = (SOURCES[:1] + (("none", "t", "c", ()),), (), ("rows", (PX,)), (), None, False)
        self.assertEqual(self.needed(self.ALL[:2], only), "c")

    def test_at_elder_moments(self):
        for moment, what in enumerate(("a", "b", "c")):
            self.assertEqual(self.needed(self.ALL, FULL, moment), what)
        self.assertIsNone(need_ask(Tables(self.ALL), FULL, moment=3))

    def test_pairs_their_own_column_first(self):
        columns = {"a": ("x", "y"), "b": ("x", "y"), "c": ("x", "y")}

        def lacking(name, left):
            return [("table", one, left if one == name else columns[one]) for one in "abc"]

        # Of q: x to p.x, y to p.y; of r (a again): x to q.x.
        self.assertEqual(self.needed(lacking("b", ("z",)), FULL), ("q", "x"))
        self.assertEqual(self.needed(lacking("a", ("z",)), FULL), ("p", "x"))
        self.assertEqual(self.needed(lacking("b", ("x",)), FULL), ("q", "y"))
        self.assertEqual(self.needed(lacking("a", ("x",)), FULL), ("p", "y"))
        self.assertEqual(self.needed(lacking("c", ("y",)), FULL), ("s", "x"))
        self.assertEqual(self.needed(lacking("c", ("x",)), FULL), ("t", "y"))

    def test_a_source_ahead_of_the_next_ones_table(self):
        ask = ((("with", "p", "a", ()), ("with", "q", "a", (("v", "p", "w"),)), ("with", "r", "gone", ())),
               (("lacking", ("cell", "p", "v")),), ("rows", (("cell", "p", "v"),)), (), None, False)
        self.assertEqual(self.needed(self.ALL, ask), ("q", "v"))
        self.assertEqual(self.needed([("table", "a", ("v",))], ask), ("p", "w"))
        self.assertEqual(self.needed([("table", "a", ("v", "w"))], ask), "gone")

    def test_sieves_then_the_telling_from_the_left(self):
        def cell(column):
            return ("cell", "p", column)

        sieves = (("below", ("plus", cell("d"), ("number", 1)), ("less", cell("e"), cell("f"))), ("lacking", cell("c")))
        groups = ("groups", (cell("m"), cell("l")), (("sum", ("over", cell("k"), cell("j"))), ("count", cell("h"))))
        for telling, told in ((groups, "mlkjh"), (("rows", (cell("z"), ("times", cell("y"), cell("b")))), "zyb")):
            ask = ((("with", "p", "a", ()),), sieves, telling, (), None, False)
            self.assertIs(is_ask(ask), True)
            there = []
            for column in "defc" + told:
                # By columns of their own, all those ahead are there; four are the most that a table has.
                want = column
                if len(there) >= 4:
                    ask = replaced_columns(ask, there[-1])
                    there = there[:-1]
                columns = tuple(there) or ("zz",)
                self.assertEqual(self.needed([("table", "a", columns)], ask), ("p", want))
                there.append(column)

    def test_a_table_joined_with_itself(self):
        ask = ((("with", "p", "a", ()), ("with", "q", "a", (("x", "p", "y"),))), (("lacking", ("cell", "q", "z")),),
               ("rows", (("cell", "p", "z"),)), (), None, False)
        self.assertEqual(self.needed(self.ALL, ask), ("q", "z"))


def replaced_columns(ask, column):
    """The ask with the column d instead of this one."""
    if isinstance(ask, tuple):
        if ask == ("cell", "p", column):
            return ("cell", "p", "d")
        return tuple(replaced_columns(one, column) for one in ask)
    return ask

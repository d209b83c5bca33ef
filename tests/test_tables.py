import unittest

from helper import THINGS, deep, refusal
from plansamid.errors import NoDeed, NoPlace, PlanError, Taken, TooMany, Unknown
from plansamid.tables import Tables

DEEDS = [("table", "a", ("x", "y")), ("row", "a", (1, 2)), ("table", "b", ("z",)), ("row", "a", (3, -4)),
         ("row", "b", (5,)), ("out", "a", 0), ("row", "a", (6, 7))]


def state(tables):
    """All that tables tell, at each moment."""
    told = [tables.moment(), len(tables), str(tables), repr(tables), tables.deeds()]
    for moment in range(tables.moment() + 1):
        for name in tables.names(moment=moment):
            told.append((moment, name, tables.columns(name, moment=moment), tables.rows(name, moment=moment)))
    return told


class RefusalTest(unittest.TestCase):

    def refused(self, tables, deed, kind, field=None, worth=None):
        before = state(tables)
        error = refusal(tables.do, deed)
        self.assertIs(error.__class__, kind, deed)
        if field is not None:
            self.assertEqual(getattr(error, field), worth)
        self.assertEqual(state(tables), before)
        # A table of deeds is refused likewise, be they a tuple or a list.
        for deeds in (tables.deeds() + [deed], tuple(tables.deeds()) + (deed,)):
            again = refusal(Tables, deeds)
            self.assertIs(again.__class__, kind)
            if field is not None:
                self.assertEqual(getattr(again, field), worth)

    def test_no_deed_by_its_form(self):
        wrong = [
            ("table", "c"), ("table",), (), ("table", "c", ("x",), 1), ["table", "c", ("x",)], ("table", "c", ["x"]),
            ("table", "c", ()), ("table", "c", ("p", "q", "r", "s", "t")), ("table", "c", ("x", "x")),
            ("table", "c", ("p", "q", "r", "p")), ("table", "c", ("X",)), ("table", "c", ("x", "")),
            ("table", "c", ("x", 1)), ("table", "c", (None,)), ("table", "c", "x"), ("table", "c", (["x"],)),
            ("table", "c", None), ("table", "C", ("x",)), ("table", "", ("x",)), ("table", "abcdefghi", ("x",)),
            ("table", "c", ("abcdefghi",)), ("table", None, ("x",)), ("table", ["c"], ("x",)), ("tables", "c", ("x",)),
            ("row", "a"), ("row", "a", (1, 2), 3), ["row", "a", (1, 2)], ("row", "a", [1, 2]), ("row", "a", 1),
            ("row", "a", None), ("row", "a", (1, None)), ("row", "a", (1, True)), ("row", "a", (False, 2)),
            ("row", "a", (1, "2")), ("row", "a", (1, 10 ** 30)), ("row", "a", (-(10 ** 30), 1)), ("row", "A", (1, 2)),
            ("row", "", (1, 2)), ("row", 1, (1, 2)), ("row", "a", (1, (2,))), ("rows", "a", (1, 2)),
            ("out", "a"), ("out", "a", 0, 0), ["out", "a", 0], ("out", "a", -1), ("out", "a", True),
            ("out", "a", False),
            ("out", "a", None), ("out", "a", "0"), ("out", "a", (0,)), ("out", "A", 0), ("out", None, 0),
            ("put", "a", 0), (None, "a", 0), (("out",), "a", 0), ([], "a", 0), ({}, "a", (1, 2)),
        ]
        for deed in wrong:
            self.refused(Tables(DEEDS), deed, NoDeed)

    def test_whatever_it_is(self):
        tables = Tables(DEEDS)
        for thing in THINGS + [deep(20, DEEDS[1])]:
            self.refused(tables, thing, NoDeed)
            for deed in (("table", thing, ("q",)), ("row", "a", thing), (thing, "a", 0), ("row", "b", (thing,))):
                if thing not in ("a", "cell", "table", "lacking", "with") and thing.__class__ not in (int, tuple):
                    self.refused(tables, deed, NoDeed)

    def test_form_goes_ahead_of_all_else(self):
        self.refused(Tables(DEEDS), ("row", "q", (None,)), NoDeed)
        self.refused(Tables(DEEDS), ("out", "q", -1), NoDeed)
        self.refused(Tables(DEEDS), ("table", "a", ()), NoDeed)
        self.refused(Tables(DEEDS), ("row", "a", (10 ** 30,)), NoDeed)

    def test_unknown(self):
        for deed in (("row", "q", (1, 2)), ("row", "q", ()), ("out", "q", 0), ("out", "q", 10 ** 99)):
            self.refused(Tables(DEEDS), deed, Unknown, "name", "q")
            self.refused(Tables(), deed, Unknown, "name", "q")
            self.assertNotIsInstance(refusal(Tables().do, deed), PlanError)

    def test_taken(self):
        self.refused(Tables(DEEDS), ("table", "a", ("x", "y")), Taken, "name", "a")
        self.refused(Tables(DEEDS), ("table", "b", ("q",)), Taken, "name", "b")

    def test_seventh_table(self):
        tables = Tables([("table", name, ("x",)) for name in "abcdef"])
        self.assertEqual(len(tables), 6)
        self.refused(tables, ("table", "g", ("x",)), TooMany, "most", 6)
        self.refused(tables, ("table", "f", ("x",)), Taken, "name", "f")
        self.refused(Tables(tables.deeds()[:5]), ("table", "g", ()), NoDeed)

    def test_sixty_first_row(self):
        tables = Tables([("table", "a", ("x",)), ("table", "b", ("x",))])
        for number in range(60):
            self.assertEqual(tables.do(("row", "a", (number,))), number)
        self.refused(tables, ("row", "a", (1,)), TooMany, "most", 60)
        # Ahead of worths not as many as columns.
        self.refused(tables, ("row", "a", ()), TooMany, "most", 60)
        self.refused(tables, ("row", "a", (None,)), NoDeed)
        self.assertEqual(tables.do(("row", "b", (1,))), 0)
        for number in range(60):
            self.assertIsNone(tables.do(("out", "a", number)))
        self.assertEqual(tables.rows("a"), [])
        self.refused(tables, ("row", "a", (1,)), TooMany, "most", 60)

    def test_worths_not_as_many_as_columns(self):
        for worths in ((), (1,), (1, 2, 3)):
            self.refused(Tables(DEEDS), ("row", "a", worths), NoDeed)
        self.refused(Tables(DEEDS), ("row", "b", (1, 2)), NoDeed)

    def test_no_place(self):
        self.refused(Tables(DEEDS), ("out", "a", 3), NoPlace, "number", 3)
        self.refused(Tables(DEEDS), ("out", "a", 10 ** 99), NoPlace, "number", 10 ** 99)
        self.refused(Tables(DEEDS), ("out", "a", 0), NoPlace, "number", 0)
        self.refused(Tables(DEEDS), ("out", "b", 1), NoPlace, "number", 1)
        self.refused(Tables(DEEDS[:1]), ("out", "a", 0), NoPlace, "number", 0)

    def test_deeds_ahead_of_the_refused_one_change_no_other_tables(self):
        deeds = list(DEEDS) + [("out", "a", 0)]
        self.assertIs(refusal(Tables, deeds).__class__, NoPlace)
        self.assertEqual(deeds, DEEDS + [("out", "a", 0)])


class DoneTest(unittest.TestCase):

    def test_what_is_told_of_each_deed(self):
        tables = Tables()
        self.assertEqual([tables.do(deed) for deed in DEEDS], [None, 0, None, 1, 0, None, 2])
        self.assertIsNone(tables.do(("out", "a", 2)))
        self.assertEqual(tables.do(("row", "a", (8, 9))), 3)

    def test_as_great_and_as_small_as_may_be(self):
        tables = Tables((("table", "abcdefgh", ("abcdefgh", "b", "c", "d")),))
        most = 10 ** 30 - 1
        self.assertEqual(tables.do(("row", "abcdefgh", (most, -most, 0, 1))), 0)
        self.assertEqual(tables.rows("abcdefgh"), [(0, (most, -most, 0, 1))])

    def test_deeds_as_a_tuple_as_a_list_by_name(self):
        for tables in (Tables(tuple(DEEDS)), Tables(list(DEEDS)), Tables(deeds=DEEDS)):
            self.assertEqual(tables.rows("a"), [(1, (3, -4)), (2, (6, 7))])
            self.assertEqual(tables.deeds(), DEEDS)
        self.assertIsNone(Tables().do(deed=DEEDS[0]))

    def test_what_is_handed_in_is_copied(self):
        deeds = list(DEEDS)
        tables = Tables(deeds)
        tables.do(("row", "b", (9,)))
        self.assertEqual(deeds, DEEDS)
        deeds.clear()
        self.assertEqual(tables.deeds(), DEEDS + [("row", "b", (9,))])


class ToldTest(unittest.TestCase):

    def test_rows_at_each_moment(self):
        tables = Tables(DEEDS)
        wanted = {1: [], 2: [(0, (1, 2))], 3: [(0, (1, 2))], 4: [(0, (1, 2)), (1, (3, -4))],
                  5: [(0, (1, 2)), (1, (3, -4))], 6: [(1, (3, -4))], 7: [(1, (3, -4)), (2, (6, 7))]}
        for moment, rows in wanted.items():
            self.assertEqual(tables.rows("a", moment=moment), rows)
        self.assertEqual(tables.rows("a"), wanted[7])
        self.assertEqual([tables.rows("b", moment=moment) for moment in (3, 4, 5, 6)],
                         [[], [], [(0, (5,))], [(0, (5,))]])

    def test_columns_and_names_at_each_moment(self):
        tables = Tables(DEEDS)
        self.assertEqual([tables.names(moment=moment) for moment in range(5)],
                         [[], ["a"], ["a"], ["a", "b"], ["a", "b"]])
        self.assertEqual(tables.names(), ["a", "b"])
        for moment in range(1, 8):
            self.assertEqual(tables.columns("a", moment=moment), ("x", "y"))
        self.assertEqual(tables.columns("b"), ("z",))
        self.assertEqual(tables.columns("b", moment=3), ("z",))

    def test_names_rise(self):
        tables = Tables([("table", name, ("x",)) for name in ("m", "b", "zz", "a", "z")])
        self.assertEqual(tables.names(), ["a", "b", "m", "z", "zz"])
        self.assertEqual(tables.names(moment=3), ["b", "m", "zz"])

    def test_unknown_of_what_is_not_there_then(self):
        tables = Tables(DEEDS)
        for ask in (tables.rows, tables.columns):
            for name, moment in (("q", None), ("q", 0), ("q", 7), ("a", 0), ("b", 2), ("b", 0), ("a", 8), ("b", 99)):
                error = refusal(ask, name, moment=moment)
                self.assertIs(error.__class__, Unknown)
                self.assertEqual(error.name, name)
            self.assertEqual(refusal(ask, "q").name, "q")
            self.assertEqual(refusal(ask, name="q").name, "q")
            for thing in THINGS:
                if thing != "a":
                    self.assertEqual(refusal(ask, thing).name, thing)

    def test_moment_by_its_name_alone(self):
        tables = Tables(DEEDS)
        for ask in (tables.rows, tables.columns):
            with self.assertRaises(TypeError):
                ask("a", 7)
        with self.assertRaises(TypeError):
            tables.names(7)

    def test_elder_moments_stay(self):
        tables = Tables(DEEDS)
        before = state(tables)[5:]
        for deed in (("out", "a", 1), ("row", "b", (1,)), ("table", "aa", ("x",)), ("out", "b", 0),
                     ("row", "aa", (4,))):
            tables.do(deed)
            self.assertEqual(state(tables)[5:5 + len(before)], before)
        self.assertEqual(tables.rows("a"), [(2, (6, 7))])
        self.assertEqual(tables.rows("b"), [(1, (1,))])

    def test_moment_and_length(self):
        tables = Tables()
        lengths = []
        for at, deed in enumerate(DEEDS):
            self.assertEqual(tables.moment(), at)
            tables.do(deed)
            lengths.append(len(tables))
        self.assertEqual(tables.moment(), 7)
        self.assertEqual(lengths, [1, 1, 2, 2, 2, 2, 2])
        self.assertEqual((Tables().moment(), len(Tables())), (0, 0))

    def test_the_same_by_the_same_deeds_in_the_same_order(self):
        self.assertTrue(Tables(DEEDS) == Tables(tuple(DEEDS)))
        self.assertFalse(Tables(DEEDS) != Tables(DEEDS))
        self.assertTrue(Tables() == Tables())
        for other in (Tables(DEEDS[:-1]), Tables(), Tables([DEEDS[2]] + DEEDS[:2] + DEEDS[3:]),
                      Tables(DEEDS[:-1] + [("row", "a", (6, 8))])):
            self.assertFalse(Tables(DEEDS) == other)
            self.assertTrue(Tables(DEEDS) != other)
        # Alike in all that is there now, but not by the deeds.
        gone = Tables(DEEDS + [("row", "b", (1,)), ("out", "b", 1)])
        self.assertFalse(gone == Tables(DEEDS + [("row", "b", (2,)), ("out", "b", 1)]))

    def test_the_same_as_nothing_else(self):
        for thing in THINGS + [DEEDS, tuple(DEEDS), str(Tables(DEEDS)), Tables(DEEDS).deeds()]:
            self.assertFalse(Tables(DEEDS) == thing)
            self.assertTrue(Tables(DEEDS) != thing)
            self.assertFalse(Tables() == thing)
            self.assertTrue(Tables() != thing)

    def test_twin_goes_on_by_itself(self):
        tables = Tables(DEEDS)
        twin = tables.twin()
        self.assertTrue(twin == tables)
        self.assertIs(twin.__class__, Tables)
        self.assertEqual(state(twin), state(tables))
        before = state(tables)
        self.assertEqual(twin.do(("row", "a", (0, 0))), 3)
        twin.do(("out", "b", 0))
        self.assertEqual(state(tables), before)
        then = state(twin)
        tables.do(("table", "c", ("x",)))
        tables.do(("out", "a", 1))
        self.assertEqual(state(twin), then)
        self.assertTrue(twin != tables)

    def test_repr(self):
        self.assertEqual(repr(Tables()), "Tables(0)")
        self.assertEqual(repr(Tables(DEEDS[:2])), "Tables(1)")
        self.assertEqual(repr(Tables(DEEDS)), "Tables(2)")

    def test_text(self):
        self.assertEqual(str(Tables()), "")
        self.assertEqual(str(Tables(DEEDS)),
                         "table a x y\nrow a 1 2\ntable b z\nrow a 3 -4\nrow b 5\nout a 0\nrow a 6 7\n")
        great = 10 ** 30 - 1
        tables = Tables([("table", "t", ("p", "q", "r", "s")), ("row", "t", (0, -great, great, -1))])
        self.assertEqual(str(tables), f"table t p q r s\nrow t 0 -{great} {great} -1\n")

    def test_deeds(self):
        self.assertEqual(Tables().deeds(), [])
        self.assertEqual(Tables(DEEDS).deeds(), DEEDS)
        self.assertEqual(Tables(Tables(DEEDS).deeds()), Tables(DEEDS))

    def test_what_is_told_is_the_askers_own(self):
        tables = Tables(DEEDS)
        before = state(tables)
        for told in (tables.rows("a"), tables.rows("a", moment=2), tables.names(), tables.deeds()):
            told.clear()
            told.append(("row", "a", (1, 1)))
        self.assertEqual(state(tables), before)
        kept = tables.rows("a")
        names = tables.names()
        deeds = tables.deeds()
        tables.do(("out", "a", 1))
        tables.do(("table", "c", ("x",)))
        self.assertEqual((kept, names, deeds), ([(1, (3, -4)), (2, (6, 7))], ["a", "b"], DEEDS))

    def test_kinds(self):
        tables = Tables(DEEDS)
        self.assertIs(tables.rows("a").__class__, list)
        self.assertIs(tables.rows("a")[0].__class__, tuple)
        self.assertIs(tables.columns("a").__class__, tuple)
        self.assertIs(tables.names().__class__, list)
        self.assertIs(tables.deeds().__class__, list)
        self.assertIs(tables.moment().__class__, int)

    def test_each_method_stands_in_the_class(self):
        for name in ("do", "moment", "rows", "columns", "names", "deeds", "twin", "__init__", "__len__", "__eq__",
                     "__str__", "__repr__"):
            self.assertIn(name, vars(Tables))

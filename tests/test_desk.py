import random
import unittest

from helper import THINGS, refusal, some_ask, some_tables
from plansamid.desk import Desk
from plansamid.errors import (Done, NoAsk, NoDeed, NoLine, NoPlace, NoRoom, NoStand, NoText, Taken, TooMany, Unknown,
                              Unlike)
from plansamid.plainly import plainly
from plansamid.runs import Run
from plansamid.stands import stand_of
from plansamid.standtexts import show_stand
from plansamid.tables import Tables
from plansamid.texts import show_ask

ROWS = ["table a x y", "row a 1 5", "row a 2 6", "row a 1 7", "table b x z", "row b 1 0", "row b 2 1", "row b 1 2",
        "row b 3 3", "table c x"]
TABLES = Tables([("table", "a", ("x", "y")), ("row", "a", (1, 5)), ("row", "a", (2, 6)), ("row", "a", (1, 7)),
                 ("table", "b", ("x", "z")), ("row", "b", (1, 0)), ("row", "b", (2, 1)), ("row", "b", (1, 2)),
                 ("row", "b", (3, 3)), ("table", "c", ("x",))])
JOINED = "with p a; with q b on x p.x; tell p.y, (6 / q.z)"
LONE = "with p a; tell p.y"
SORTED = "with p a; with q b on x p.x; tell p.y, q.z; order 0 down; first 2"
JOINED_ASK = ((("with", "p", "a", ()), ("with", "q", "b", (("x", "p", "x"),))), (),
              ("rows", (("cell", "p", "y"), ("over", ("number", 6), ("cell", "q", "z")))), (), None, False)


def desk_of(*rows):
    desk = Desk()
    for row in ROWS + list(rows):
        desk.say(row)
    return desk


def told_of(desk, names=("one", "two", "k")):
    """All that a desk tells of what runs."""
    told = [desk.say("names")]
    for name in names:
        if name in told[0].split(" "):
            told.append([desk.say(f"{word} {name}") for word in ("rows", "faults", "looks", "slabs")])
    return told


class DeskCase(unittest.TestCase):

    def go(self, desk, *rows):
        """Each a row and its answer."""
        for row, answer in rows:
            told = desk.say(row)
            self.assertEqual((told, told.__class__), (answer, str), row)

    def check_refused(self, desk, row, kind, **fields):
        before = told_of(desk)
        error = refusal(desk.say, row)
        self.assertIs(error.__class__, kind, row)
        for name, field in fields.items():
            self.assertEqual(getattr(error, name), field, row)
        self.assertEqual(told_of(desk), before)


class RowsTest(DeskCase):

    def test_deeds(self):
        desk = Desk()
        self.go(desk, ("table a x y", "ok"), ("row a 1 -5", "0"), ("row a 0 " + "9" * 30, "1"), ("out a 0", "ok"),
                ("row a -" + "9" * 30 + " 0", "2"), ("table abcdefgh x", "ok"), ("table out table row out x", "ok"),
                ("row out 1 2 3 4", "0"))
        self.assertEqual(desk.say(row="row a 3 3"), "3")
        desk.say("ask one with p a; tell p.x, p.y")
        desk.say("go one")
        self.assertEqual(desk.say("rows one"), f"0 {'9' * 30}; -{'9' * 30} 0; 3 3")

    def test_turns(self):
        desk = desk_of()
        self.go(desk, ("names", "none"), (f"ask one {JOINED}", "ok"), ("names", "one"), ("rows one", "none"),
                ("faults one", "0"), ("looks one", "0"), ("slabs one", "none"))
        run = Run(TABLES, JOINED_ASK)
        while not run.is_done():
            rows = [" ".join(str(worth) for worth in one[1]) for one in run.told() if one[0] == "row"]
            slabs = " ".join(f"{source}:{many}" for source, many in run.slabs())
            faults = len(run.told()) - len(rows)
            self.go(desk, ("rows one", "; ".join(rows) or "none"), ("faults one", str(faults)),
                    ("looks one", str(run.looks())), ("slabs one", slabs or "none"), ("turn one", str(len(run.turn()))))
        self.assertEqual(faults, 2)
        self.check_refused(desk, "turn one", Done)
        self.go(desk, ("go one", "0"), ("go one", "0"), ("names", "one"))

    def test_go(self):
        desk = desk_of(f"ask one {JOINED}", f"ask two {SORTED}", f"ask k {JOINED}")
        # Three rows and two faults; by the first two of five.
        self.go(desk, ("go one", "5"), ("go two", "2"), ("rows two", "7 0; 7 2"), ("faults one", "2"), ("go one", "0"))
        told = 0
        for _ in range(19):
            told += int(desk.say("turn k"))
        self.assertGreater(told, 0)
        self.assertEqual(int(desk.say("go k")), 5 - told)
        self.go(desk, ("looks k", desk.say("looks one")), ("slabs k", desk.say("slabs one")), ("names", "k one two"))

    def test_rows_are_as_they_were_told(self):
        desk = desk_of("ask one with p a; perhaps s b on z p.y; tell p.x, s.x, -3; order 0 down")
        self.go(desk, ("go one", "3"), ("rows one", "2 - -3; 1 - -3; 1 - -3"))
        desk = desk_of("ask one with p a; group -; sum count p.x; sum least (p.x / (p.x - p.x))")
        self.go(desk, ("go one", "3"), ("rows one", "none"), ("faults one", "3"))
        desk = desk_of("ask one with p a; with q c; tell p.x")
        self.go(desk, ("go one", "0"), ("rows one", "none"), ("slabs one", "none"), ("looks one", "0"))
        desk = desk_of("ask one with q b; strike (q.x * -2)")
        self.go(desk, ("go one", "3"), ("rows one", "-2; -4; -6"))
        great = "(((p.y * p.y) * (p.y * p.y)) * ((p.y * p.y) * (p.y * p.y)))"
        desk = desk_of("table g y", "row g " + "9" * 30, f"ask one with p g; tell {great}")
        self.go(desk, ("go one", "1"), ("rows one", str((10 ** 30 - 1) ** 8)))

    def test_along_and_share(self):
        desk = desk_of()
        self.go(desk, ("share a", "0"), ("share c", "0"), (f"along one {LONE}", "ok"), (f"ask two {LONE}", "ok"),
                ("turn one", "0"), ("turn two", "0"))
        # By the rule that doubles a visit of one look is over, that of two looks leads one row.
        self.go(desk, ("share a", "0"), ("turn one", "0"), ("turn two", "0"))
        self.go(desk, ("share a", "0"), ("share a", "1"), ("rows two", "5"), ("share a", "1"), ("rows one", "6"))
        desk = desk_of(*[f"ask {name} {LONE}" for name in ("one", "two", "k")],
                       *[f"turn {name}" for name in ("one", "two", "k")] * 2)
        self.go(desk, ("share a", "3"), ("share b", "0"), ("rows k", "5"))

    def test_loans(self):
        desk = desk_of(f"ask one {JOINED}")
        self.go(desk, ("lend one 80", "ok"), ("lend one 0", "ok"), ("call one 99", "ok"), ("call one 0", "ok"))
        self.check_refused(desk, "call one 2", NoRoom)
        self.check_refused(desk, "lend one 100", NoRoom)
        self.check_refused(desk, "lend one " + "9" * 30, NoRoom)
        self.go(desk, ("lend one 99", "ok"))
        self.check_refused(desk, f"ask two {LONE}", NoRoom)
        self.go(desk, ("call one 20", "ok"), (f"ask two {LONE}", "ok"))

    def test_names_and_drop(self):
        desk = desk_of()
        for name in "dbca":
            desk.say(f"ask {name} {LONE}")
        self.go(desk, ("names", "a b c d"), ("drop c", "ok"), ("names", "a b d"), ("drop a", "ok"), ("drop d", "ok"),
                ("drop b", "ok"), ("names", "none"))
        self.check_refused(desk, "drop b", Unknown, name="b")

    def test_two_desks_have_nothing_of_one_another(self):
        desk_of(f"ask one {LONE}")
        self.go(Desk(), ("names", "none"), ("table a x", "ok"))

    def test_names_that_are_words(self):
        desk = Desk()
        self.go(desk, ("table names names", "ok"), ("row names 3", "0"),
                ("ask names with names names; tell names.names", "ok"), ("go names", "1"), ("rows names", "3"),
                ("names", "names"), ("drop names", "ok"))


class StopTest(DeskCase):

    def test_what_it_stands_at(self):
        desk = desk_of(f"ask one {JOINED}")
        run = Run(TABLES, JOINED_ASK)
        for turns in (0, 7, 20):
            for _ in range(turns):
                desk.say("turn one")
                run.turn()
            text = desk.say("stop one")
            self.assertEqual(text, show_stand(stand_of(run))[:-1].replace("\n", "; "))
            self.go(desk, ("names", "none"), (f"take one {text}", "ok"), ("names", "one"))

    def test_between_two_desks_at_each_turn(self):
        for ask, told in ((JOINED, "5"), (SORTED, "2"), (LONE, "3"), ("with p a; group p.x; sum sum p.y", "2")):
            desk, other, alone = desk_of(), desk_of("row a 1 1", "out b 0"), desk_of()
            for one in (desk, alone):
                one.say(f"ask one {ask}")
            turns = 0
            while refusal(alone.say, "turn one") is None:
                text = desk.say("stop one")
                self.go(other, (f"take one {text}", "ok"))
                desk, other = other, desk
                desk.say("turn one")
                self.assertEqual(told_of(desk), told_of(alone))
                turns += 1
            self.assertGreater(turns, 3)
            self.check_refused(desk, "turn one", Done)
            self.go(desk_of(f"ask one {ask}"), ("go one", told))

    def test_refused(self):
        desk, other = desk_of(f"ask one {JOINED}"), desk_of(f"ask one {LONE}")
        self.go(desk, *[("turn one", "0")] * 3)
        text = desk.say("stop one")
        self.check_refused(desk, "stop one", Unknown, name="one")
        self.check_refused(other, f"take one {text}", Taken, name="one")
        for junk in ("x", "", " ", "ask", LONE, "()", text[:-1], text + ")", text + ";", "; " + text, "(" * 9999):
            self.check_refused(other, f"take k {junk}", NoStand)
            self.check_refused(other, f"take one {junk}", Taken, name="one")
        self.check_refused(other, "take one", NoLine)
        self.check_refused(other, f"take {text}", NoStand)
        self.check_refused(other, f"take ONE {text}", NoLine)
        self.check_refused(Desk(), f"take k {text}", Unlike)
        changed = Desk()
        for row in ROWS[:3] + ["row a 1 8"] + ROWS[4:]:
            changed.say(row)
        self.check_refused(changed, f"take k {text}", Unlike)
        lacking = Desk()
        for row in ["table a x y"] + ["row a 1 1"] * 9:
            lacking.say(row)
        self.check_refused(lacking, f"take k {text}", NoAsk, what="b")
        self.go(other, ("lend one 61", "ok"))
        self.check_refused(other, f"take k {text}", NoRoom)
        self.go(other, ("call one 1", "ok"), (f"take k {text}", "ok"), ("names", "k one"))


class NoLineTest(DeskCase):

    def check_all(self, *rows):
        desk = desk_of(f"ask one {JOINED}", "turn one")
        for row in rows:
            self.check_refused(desk, row, NoLine)

    def test_what_is_no_text_or_has_a_line_end(self):
        self.check_all(*[thing for thing in THINGS if not isinstance(thing, str)])
        self.check_all(b"names", ["names"], "names\n", "\nnames", "turn one\n", "names\nnames", "\n",
                       f"ask two {LONE}\n", "ask two with p a;\ntell p.y", "ask two with p a\ntell p.y", "row a 1\n 2",
                       "take two x\ny")

    def test_the_first_word(self):
        self.check_all("", " ", "one", "name", "Names", "NAMES", " names", "begin one", "say one", "none", "ok",
                       "Turn one", "turns one", ";", "a", "x" * 30000, "with p a", "first 1", "let one", "columns one")

    def test_the_count_of_words(self):
        self.check_all("names one", "names ", "table", "table t", "row", "row a", "out", "out a", "out a 0 0", "ask",
                       "ask two", "along", "along two", "turn", "turn one two", "go", "go one one", "share",
                       "share a b", "rows", "rows one two", "faults", "faults one 1", "lend", "lend one",
                       "lend one 1 1", "call", "call one", "call one 1 1", "looks", "looks one two", "slabs",
                       "slabs one two", "stop", "stop one now", "take", "take two", "drop", "drop one two")

    def test_empty_words(self):
        self.check_all("turn ", "turn  one", "turn one ", " turn one", "go ", "go one ", "table  t x", "table t ",
                       "table t  x", "table t x ", "row a ", "row a  1 5", "row a 1  5", "row a 1 5 ", "row  a 1 5",
                       "out a ", "out  a 0", "out a  0", "out a 0 ", "lend one ", "lend one  1", "lend one 1 ",
                       "call one ", "call  one 1", "share ", "share a ", "rows ", "looks one ", "slabs ", "faults ",
                       "stop ", "drop one ", "drop  one", f"ask  {LONE}", f"along  two {LONE}", "take  x")

    def test_names(self):
        for name in ("One", "ONE", "abcdefghi", "one1", "o-ne", "1", "-", ";", "one;", "o.e", "x" * 20000):
            self.check_all(f"table {name} x", f"row {name} 1", f"out {name} 0", f"ask {name} {LONE}",
                           f"along {name} {LONE}", f"turn {name}", f"go {name}", f"share {name}", f"rows {name}",
                           f"faults {name}", f"lend {name} 1", f"call {name} 1", f"looks {name}", f"slabs {name}",
                           f"stop {name}", f"take {name} x", f"drop {name}", f"table t {name}", f"table t x {name}")
        # Ahead of an ask that can't be read.
        self.check_all("ask TWO x", "along TWO x")

    def test_numbers(self):
        for number in ("x", "01", "-0", "00", "+1", "1.0", "1,", "--1", "-", "1" * 31, "-" + "1" * 31, "1_0", "0x1",
                       "None", "9" * 20000):
            self.check_all(f"row a {number}", f"row a 1 {number}", f"row a {number} 1", f"out a {number}",
                           f"lend one {number}", f"call one {number}", f"row d {number}", f"out d {number}",
                           f"lend two {number}")
        for number in ("-1", "-" + "9" * 30):
            self.check_all(f"out a {number}", f"lend one {number}", f"call one {number}", f"out d {number}")


class RefusedTest(DeskCase):

    def test_an_ask_that_can_not_be_read(self):
        desk = desk_of(f"ask one {LONE}")
        for ask, line in (("x", 0), ("", 0), ("with p a", 1), ("with p a;", 0), ("with p a; ", 1), (f"{LONE}; ", 2),
                          (f"{LONE};", 1), (f"{LONE}; first 0", 2), ("with p a;tell p.y", 0),
                          ("with p a ; tell p.y", 0),
                          ("with p a;  tell p.y", 1), (" with p a; tell p.y", 0), ("with  p a; tell p.y", 0),
                          ("with p a; tell p.y ", 1), ("; with p a; tell p.y", 0), ("with p a; tell p.y; tell p.y", 2),
                          ("with p a; tell q.y", 1), ("with p a; with q b on x; tell p.y", 1), (";", 0), ("; ; ", 0)):
            for word in ("ask", "along"):
                # Ahead of what the house refuses.
                for name in ("two", "one"):
                    self.check_refused(desk, f"{word} {name} {ask}", NoText, line=line)

    def test_as_the_house_refuses(self):
        desk = desk_of(f"ask one {JOINED}")
        for row, kind, fields in (("table a x", Taken, {"name": "a"}), ("table t x x", NoDeed, {}),
                                  ("table t v w x y z", NoDeed, {}), ("row a 1", NoDeed, {}),
                                  ("row a 1 2 3", NoDeed, {}),
                                  ("row d 1", Unknown, {"name": "d"}), ("out d 0", Unknown, {"name": "d"}),
                                  ("out a 3", NoPlace, {"number": 3}), ("turn two", Unknown, {"name": "two"}),
                                  ("go two", Unknown, {"name": "two"}), ("share d", Unknown, {"name": "d"}),
                                  ("share one", Unknown, {"name": "one"}), ("rows two", Unknown, {"name": "two"}),
                                  ("faults two", Unknown, {"name": "two"}), ("lend two 1", Unknown, {"name": "two"}),
                                  ("call two 1", Unknown, {"name": "two"}), ("looks two", Unknown, {"name": "two"}),
                                  ("slabs two", Unknown, {"name": "two"}), ("stop two", Unknown, {"name": "two"}),
                                  ("drop two", Unknown, {"name": "two"}), ("call one 21", NoRoom, {}),
                                  ("lend one 81", NoRoom, {}), (f"ask one {LONE}", Taken, {"name": "one"}),
                                  (f"along one {LONE}", Taken, {"name": "one"}),
                                  ("ask two with p d; tell 0", NoAsk, {"what": "d"}),
                                  ("along two with p a; tell p.z", NoAsk, {"what": ("p", "z")})):
            self.check_refused(desk, row, kind, **fields)
        for name in ("d", "e", "f"):
            desk.say(f"table {name} x")
        self.check_refused(desk, "table g x", TooMany, most=6)
        for name in "bcde":
            desk.say(f"ask {name} {LONE}")
        self.check_refused(desk, f"ask f {LONE}", NoRoom)
        for name in ("one", "b", "c"):
            desk.say(f"call {name} 20")
        for name in "fgh":
            desk.say(f"ask {name} {LONE}")
        self.check_refused(desk, f"ask i {LONE}", TooMany, most=8)
        self.check_refused(desk, f"along i {LONE}", TooMany, most=8)

    def test_what_is_refused_changes_no_table(self):
        desk = desk_of()
        for row in ("row a 1", "row a 1 x", "row a 1 2 3", "row a 01 1", "out a 9", "table a x", "table z X"):
            self.assertIsNotNone(refusal(desk.say, row))
        self.go(desk, ("row a 1 1", "3"), ("table z x", "ok"))


class ChanceTest(DeskCase):

    def test_asks_by_chance(self):
        for seed in range(60):
            with self.subTest(seed=seed):
                chance = random.Random(seed)
                desk, deeds, ask = Desk(), some_tables(chance), some_ask(chance)
                for word, name, what in deeds:
                    words = [what] if word == "out" else list(what)
                    desk.say(" ".join([word, name] + [str(one) for one in words]))
                rows, faults = plainly(Tables(deeds), ask)
                desk.say(f"ask one {show_ask(ask)[:-1]}".replace("\n", "; "))
                self.go(desk, ("go one", str(len(rows) + len(faults))), ("faults one", str(len(faults))))
                wanted = [" ".join("-" if worth is None else str(worth) for worth in worths) for worths, _ in rows]
                told = desk.say("rows one").split("; ") if wanted else []
                self.assertEqual(sorted(told), sorted(wanted))
                if ask[3] != () or ask[4] is not None or ask[2][0] == "groups":
                    self.assertEqual(told, wanted)

import random
import unittest

from helper import THINGS, refusal, some_ask, some_deed, some_rule, some_tables, state
from plansamid.errors import NoRoom, NoText
from plansamid.house import House
from plansamid.looker import lets_answer
from plansamid.runs import Run
from plansamid.stands import stand_of, taken_up
from plansamid.standtexts import read_house, read_stand, show_house, show_stand
from plansamid.tables import Tables
from test_stands import ASKS, DEEDS, JOINED, RULES, TABLES

NO_TEXTS = [thing for thing in THINGS if not isinstance(thing, str)]


def kinds(thing):
    """The same thing with its kinds: a truth is no number."""
    if thing.__class__ in (tuple, list):
        return (thing.__class__, [kinds(one) for one in thing])
    return (thing.__class__, thing)


class TextCase(unittest.TestCase):

    def check_signs(self, text):
        self.assertIs(text.__class__, str)
        self.assertTrue(text.endswith("\n"))
        self.assertNotIn(";", text)
        for line in text[:-1].split("\n"):
            self.assertFalse(line.endswith(" ") or line == "", repr(line))
            self.assertTrue(all(" " <= sign <= "~" for sign in line))

    def check_stand(self, stand):
        text = show_stand(stand)
        self.check_signs(text)
        self.assertEqual(kinds(read_stand(text)), kinds(stand))
        self.assertEqual(show_stand(read_stand(text)), text)


class StandTest(TextCase):

    def test_runs_of_every_form_at_each_turn(self):
        for ask in ASKS:
            for rule in RULES:
                for more in ({}, {"rooms": 2, "hand": 1}, {"starts": (2, 0), "counts": {}}):
                    if rule[0] == "stay" and len(ask[0]) == 1:
                        continue
                    run, other = Run(TABLES, ask, rule=rule, **more), Run(TABLES, ask, rule=rule, **more)
                    while True:
                        self.check_stand(stand_of(other))
                        other = taken_up(TABLES, read_stand(text=show_stand(stand=stand_of(other))))
                        self.assertEqual(state(other), state(run))
                        if run.is_done():
                            break
                        self.assertEqual(other.turn(), run.turn())

    def test_by_chance(self):
        for seed in range(80):
            with self.subTest(seed=seed):
                chance = random.Random(seed)
                tables, ask = Tables(some_tables(chance)), some_ask(chance)
                run = Run(tables, ask, rule=some_rule(chance, ask), rooms=chance.randrange(9),
                          hand=chance.randrange(1, 4))
                for _ in range(chance.randrange(20)):
                    if not run.is_done():
                        run.turn()
                self.check_stand(stand_of(run))

    def test_great_numbers_and_names_that_are_words(self):
        greatest = 10 ** 30 - 1
        tables = Tables([("table", "none", ("none", "run")), ("row", "none", (greatest, -greatest)),
                         ("row", "none", (0, -1))])
        cells = ("cell", "true", "none"), ("cell", "true", "run")
        power = ("times", ("times", cells[0], cells[1]), ("times", cells[0], cells[1]))
        ask = ((("with", "true", "none", ()), ("perhaps", "false", "none", (("run", "true", "none"),))), (),
               ("rows", (power, ("cell", "false", "none"))), ((0, "down"),), None, False)
        run = Run(tables, ask, rule=("stay", 0), counts={"none": (10 ** 99, {"run": 0, "none": 10 ** 98})})
        while not run.is_done():
            self.check_stand(stand_of(run))
            run.turn()
        self.check_stand(stand_of(run))
        self.assertIn(((0, None)), [worths for _, worths, _ in run.told()])

    def test_what_is_no_text_and_what_can_not_be_read(self):
        for thing in NO_TEXTS:
            error = refusal(read_stand, thing)
            self.assertEqual((error.__class__, error.line), (NoText, 0))
        text = show_stand(stand_of(Run(TABLES, JOINED)))
        lines = text.splitlines(True)
        for other in ("", "\n", "a", "run a\n", text[:-1], text + "\n", text + lines[0], "".join(lines[1:]),
                      "".join(lines[:-1]), "".join(lines[::-1]), text.replace("(", "", 1), text.replace(")", "", 1),
                      text.replace("(", ")"), text.replace(" ", "\n", 1)):
            self.assertIs(refusal(read_stand, other).__class__, NoText, other)


def house_of(rooms=100):
    house = House(rooms=rooms)
    for deed in DEEDS:
        house.do(deed)
    return house


class HouseTest(TextCase):

    def check_alike(self, house, other):
        """They tell the same, but what is saved."""
        self.assertIs(other.__class__, House)
        self.assertEqual(other.tables(), house.tables())
        self.assertEqual((other.names(), len(other)), (house.names(), len(house)))
        for table in house.tables().names():
            self.assertEqual(other.next_row(table), house.next_row(table))
        for name in house.names():
            self.assertEqual(state(other.run(name)), state(house.run(name)))
            self.assertEqual(stand_of(other.run(name)), stand_of(house.run(name)))

    def test_the_lines(self):
        house = house_of(rooms=77)
        tables = str(house.tables())
        self.assertEqual(show_house(house), "rooms 77\n" + tables)
        house.share("b")
        house.share("b")
        self.assertEqual(show_house(house=house), "rooms 77\n" + tables + "walk b 1\n")
        house.begin("one", JOINED)
        house.begin("beta", ASKS[1], rule=("stay", 0))
        for table in "ca":
            house.share(table)
        house.turn("beta")
        run, sorted_run = Run(TABLES, JOINED), Run(TABLES, ASKS[1], rule=("stay", 0))
        sorted_run.turn()
        self.assertEqual(show_house(house), "rooms 77\n" + tables + "walk a 0\nwalk b 1\nwalk c 0\nrun beta\n" +
                         show_stand(stand_of(sorted_run)) + "run one\n" + show_stand(stand_of(run)))
        self.check_signs(show_house(house))
        # A table that never had a row has no walk; deeds come as they were done.
        house.do(("table", "aa", ("x",)))
        house.share("aa")
        house.do(("row", "a", (3, 3)))
        wanted = "rooms 77\n" + tables + "table aa x\nrow a 3 3\nwalk a 0\nwalk b 1\n"
        self.assertTrue(show_house(house).startswith(wanted))
        self.assertEqual(show_house(House(rooms=0)), "rooms 0\n")

    def test_the_row_read_last(self):
        house = house_of()
        for number in (0, 1, 2, 0):
            house.share("a")
            self.assertIn(f"walk a {number}\n", show_house(house))
        house.do(("row", "a", (1, 1)))
        self.assertEqual(read_house(show_house(house)).next_row("a"), 1)
        for _ in range(3):
            house.share("a")
        self.assertEqual(read_house(show_house(house)).next_row("a"), 0)

    def test_what_is_read_back_goes_on_just_so(self):
        for rule in (RULES[0], RULES[3]):
            house = house_of()
            for name, ask in zip("abcdefgh", ASKS):
                house.begin(name, ask, rule=rule, rooms=12, along=name in "ace")
            house.do(("row", "a", (1, 9)))
            for at in range(70):
                other = read_house(text=show_house(house))
                self.check_alike(house, other)
                self.assertEqual(show_house(other), show_house(house))
                name, table = house.names()[at % 8], "abc"[at % 3]
                if not house.run(name).is_done():
                    self.assertEqual(other.turn(name), house.turn(name))
                self.assertEqual(other.share(table), house.share(table))
                self.check_alike(house, other)
                if at % 2:
                    house = other
            for name in house.names():
                run = house.run(name)
                if run.is_done():
                    self.assertTrue(lets_answer(TABLES, run.ask(), run.answer()))

    def test_nothing_is_saved_and_kept(self):
        house = house_of()
        for name in "ab":
            house.begin(name, JOINED, rule=("stay", 0))
            house.turn(name)
        for _ in range(2):
            house.share("a")
        self.assertEqual(house.saved(), (2, 3))
        other = read_house(show_house(house))
        self.assertEqual(other.saved(), (0, 0))
        for one, saved in ((other, (0, 0)), (house, (2, 6))):
            one.begin("c", JOINED, rule=("stay", 0))
            one.turn("c")
            self.assertEqual(one.saved(), saved)

    def test_rooms(self):
        house = house_of(rooms=45)
        house.begin("a", JOINED)
        house.begin("b", JOINED)
        other = read_house(show_house(house))
        self.assertIs(refusal(other.lend, "a", 6).__class__, NoRoom)
        other.lend("a", 5)
        self.assertIs(refusal(other.begin, "c", JOINED, rooms=1).__class__, NoRoom)
        # By itself.
        self.assertIsNone(refusal(house.lend, "a", 5))

    def test_full_ones(self):
        house = house_of(rooms=8)
        for name in "hgfedcba":
            house.begin(name, JOINED, rooms=1)
        other = read_house(show_house(house))
        self.assertEqual((len(other), other.names()), (8, list("abcdefgh")))
        self.assertEqual(read_house(show_house(House())).tables(), Tables())

    def test_what_is_no_text(self):
        for thing in NO_TEXTS:
            error = refusal(read_house, thing)
            self.assertEqual((error.__class__, error.line), (NoText, 0))
        for text, line in (("", 0), ("rooms 3", 0), ("rooms 3\ntable a x\nrow", 2)):
            error = refusal(read_house, text)
            self.assertEqual((error.__class__, error.line), (NoText, line))

    def test_by_chance(self):
        for seed in range(40):
            with self.subTest(seed=seed):
                chance = random.Random(seed)
                house = House()
                for deed in some_tables(chance):
                    house.do(deed)
                for at in range(4):
                    ask = some_ask(chance)
                    house.begin("klmn"[at], ask, rule=some_rule(chance, ask), rooms=chance.randrange(20),
                                along=chance.choice((True, False)))
                    some_deed(chance, house.tables())
                for _ in range(30):
                    name = chance.choice("klmn")
                    house.share(chance.choice("abc"))
                    if not house.run(name).is_done():
                        house.turn(name)
                self.check_signs(show_house(house))
                other = read_house(show_house(house))
                self.check_alike(house, other)
                for name in house.names():
                    while not house.run(name).is_done():
                        self.assertEqual(other.turn(name), house.turn(name))
                self.check_alike(house, other)

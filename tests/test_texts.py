import random
import unittest

from helper import some_ask, some_part, some_sieve, some_tables
from plansamid.reader import read_ask, read_part, read_sieve, read_tables
from plansamid.tables import Tables
from plansamid.texts import show_ask, show_part, show_sieve, show_tables


def cell(alias, column):
    return ("cell", alias, column)


GREATEST = 10 ** 30 - 1
P = ("with", "p", "a", ())
X, Y = cell("p", "x"), cell("p", "y")
ONE, NOUGHT = ("number", 1), ("number", 0)


def deep(levels, word="plus"):
    """A part so many deep, to the left."""
    return X if levels == 1 else (word, deep(levels - 1, word), ONE)


def wide(parts):
    """A part of so many parts, an odd number up to fifteen, four deep at most."""
    if parts == 1:
        return NOUGHT
    half = (parts - 1) // 2
    first = half if half % 2 else half - 1
    return ("times", wide(first), wide(parts - 1 - first))


PARTS = [
    (X, "p.x"), (cell("abcdefgh", "zyxwvuts"), "abcdefgh.zyxwvuts"), (NOUGHT, "0"), (("number", -7), "-7"),
    (("number", GREATEST), "9" * 30), (("number", -GREATEST), "-" + "9" * 30), (("number", 10 ** 29), "1" + "0" * 29),
    (("plus", X, ONE), "(p.x + 1)"), (("less", X, Y), "(p.x - p.y)"), (("times", ONE, X), "(1 * p.x)"),
    (("over", X, NOUGHT), "(p.x / 0)"), (("less", ("number", -1), ("number", -2)), "(-1 - -2)"),
    (("over", ("plus", X, ONE), ("times", Y, ("number", -3))), "((p.x + 1) / (p.y * -3))"),
    (deep(5), "((((p.x + 1) + 1) + 1) + 1)"), (("less", X, deep(4, "over")), "(p.x - (((p.x / 1) / 1) / 1))"),
    (wide(15), "(((0 * 0) * (0 * 0)) * ((0 * 0) * (0 * 0)))"), (cell("with", "on"), "with.on"),
    (("plus", cell("lacking", "sum"), cell("order", "first")), "(lacking.sum + order.first)"),
]
SIEVES = [
    (("alike", X, ONE), "p.x = 1"), (("unlike", X, Y), "p.x # p.y"), (("below", NOUGHT, X), "0 < p.x"),
    (("lacking", X), "lacking p.x"), (("lacking", ("over", X, Y)), "lacking (p.x / p.y)"),
    (("alike", ("less", X, ONE), ("plus", Y, ("number", -1))), "(p.x - 1) = (p.y + -1)"),
    (("below", deep(5), wide(15)), show_part(deep(5)) + " < " + show_part(wide(15))),
    (("alike", cell("lacking", "x"), cell("with", "on")), "lacking.x = with.on"),
    (("lacking", cell("lacking", "lacking")), "lacking lacking.lacking"),
]
Q = ("with", "q", "b", (("x", "p", "y"), ("y", "p", "x")))
ROWS = ("rows", (X, ("number", -2)))
GROUPS = ("groups", (X, ("plus", X, ONE)), (("count", X), ("sum", ONE), ("least", ("over", X, NOUGHT))))
ASKS = [
    (((P,), (), ("rows", (X,)), (), None, False), "with p a\ntell p.x\n"),
    (((P,), (), ("rows", (X,)), (), None, True), "with p a\nstrike p.x\n"),
    (((P, Q), (), ROWS, (), None, False), "with p a\nwith q b on x p.y on y p.x\ntell p.x, -2\n"),
    (((P, Q[:3] + ((),)), (), ROWS, (), None, True), "with p a\nwith q b\nstrike p.x, -2\n"),
    (((P, ("none", "q", "a", (("z", "p", "x"),)), ("perhaps", "r", "c", ())), (), ROWS, (), None, False),
     "with p a\nnone q a on z p.x\nperhaps r c\ntell p.x, -2\n"),
    (((P,), (("lacking", X), ("alike", X, ONE), ("unlike", X, Y), ("below", X, Y)), ROWS, (), None, False),
     "with p a\nsieve lacking p.x\nsieve p.x = 1\nsieve p.x # p.y\nsieve p.x < p.y\ntell p.x, -2\n"),
    (((P,), (), ROWS, ((1, "up"),), None, False), "with p a\ntell p.x, -2\norder 1 up\n"),
    (((P,), (), ROWS, ((1, "down"), (0, "up")), 60, True), "with p a\nstrike p.x, -2\norder 1 down, 0 up\nfirst 60\n"),
    (((P,), (), ROWS, (), 1, False), "with p a\ntell p.x, -2\nfirst 1\n"),
    (((P,), (), GROUPS, ((4, "down"),), 2, False),
     "with p a\ngroup p.x, (p.x + 1)\nsum count p.x\nsum sum 1\nsum least (p.x / 0)\norder 4 down\nfirst 2\n"),
    (((P,), (), ("groups", (), (("most", X),)), (), None, False), "with p a\ngroup -\nsum most p.x\n"),
    (((P,), (("lacking", X),), ("groups", (X,), (("count", X),)), (), 3, False),
     "with p a\nsieve lacking p.x\ngroup p.x\nsum count p.x\nfirst 3\n"),
    # Names that are words of the texts.
    (((("with", "on", "on", ()), ("with", "with", "none", (("on", "on", "on"),)), ("none", "sieve", "tell", ()),
       ("perhaps", "sum", "order", (("first", "with", "group"),))), (("lacking", cell("sum", "strike")),),
      ("rows", (cell("sum", "first"),)), (), None, False),
     "with on on\nwith with none on on on.on\nnone sieve tell\nperhaps sum order on first with.group\n"
     "sieve lacking sum.strike\ntell sum.first\n"),
    (((P, ("with", "q", "a", ()), ("with", "r", "a", ()), ("none", "s", "a", ()), ("none", "t", "a", ())), (),
      ("rows", (X, X, X, X)), (), None, False),
     "with p a\nwith q a\nwith r a\nnone s a\nnone t a\ntell p.x, p.x, p.x, p.x\n"),
]
DEEDS = [("table", "a", ("x",)), ("row", "a", (-5,)), ("table", "row", ("out", "table", "row", "abcdefgh")),
         ("row", "row", (0, GREATEST, -GREATEST, 10)), ("out", "a", 0), ("row", "a", (7,)), ("out", "a", 1)]
TABLES_TEXT = ("table a x\nrow a -5\ntable row out table row abcdefgh\nrow row 0 " + "9" * 30 + " -" + "9" * 30 +
               " 10\nout a 0\nrow a 7\nout a 1\n")


class ShowTest(unittest.TestCase):

    def test_parts(self):
        for part, text in PARTS:
            self.assertEqual(show_part(part), text)
        self.assertEqual(show_part(part=X), "p.x")

    def test_sieves(self):
        for sieve, text in SIEVES:
            self.assertEqual(show_sieve(sieve), text)
        self.assertEqual(show_sieve(sieve=("lacking", X)), "lacking p.x")

    def test_asks(self):
        for ask, text in ASKS:
            self.assertEqual(show_ask(ask), text)
        self.assertEqual(show_ask(ask=ASKS[0][0]), ASKS[0][1])

    def test_tables(self):
        self.assertEqual(show_tables(Tables(DEEDS)), TABLES_TEXT)
        self.assertEqual(show_tables(tables=Tables(DEEDS)), str(Tables(DEEDS)))
        self.assertEqual(show_tables(Tables()), "")


class ReadBackTest(unittest.TestCase):

    def test_parts_and_sieves(self):
        for part, text in PARTS:
            self.assertEqual(read_part(text), part)
        for sieve, text in SIEVES:
            self.assertEqual(read_sieve(text), sieve)
        self.assertEqual((read_part(text="0"), read_sieve(text="0 < 0")), (NOUGHT, ("below", NOUGHT, NOUGHT)))

    def test_asks(self):
        for ask, text in ASKS:
            self.assertEqual(read_ask(text), ask)
            self.assertIs(read_ask(text=text)[5], ask[5])

    def test_tables(self):
        tables = read_tables(TABLES_TEXT)
        self.assertEqual((tables, tables.__class__), (Tables(DEEDS), Tables))
        self.assertEqual(read_tables(text=""), Tables())
        # They go on by themselves.
        tables.do(("row", "a", (1,)))
        self.assertEqual(read_tables(TABLES_TEXT), Tables(DEEDS))

    def test_the_most_of_all(self):
        deeds = []
        for name in "abcdef":
            deeds.append(("table", name, ("w", "x", "y", "z")))
            deeds.extend(("row", name, (-GREATEST + number, GREATEST, -GREATEST, -number)) for number in range(60))
            deeds.extend(("out", name, number) for number in range(60))
        tables = Tables(deeds)
        self.assertEqual(read_tables(str(tables)), tables)

    def test_by_chance(self):
        for seed in range(300):
            chance = random.Random(seed)
            part, sieve = some_part(chance, ["p", "sum"], 5), some_sieve(chance, ["on", "q"])
            ask, tables = some_ask(chance), Tables(some_tables(chance))
            self.assertEqual(read_sieve(show_sieve(sieve)), sieve)
            self.assertEqual(read_ask(show_ask(ask)), ask)
            self.assertEqual(read_tables(show_tables(tables)), tables)
            if show_part(part).count("(") <= 7:
                self.assertEqual(read_part(show_part(part)), part)

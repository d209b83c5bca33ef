import unittest

from helper import THINGS, refusal
from plansamid.errors import NoText
from plansamid.reader import read_ask, read_part, read_sieve, read_tables
from test_texts import ASKS, PARTS, SIEVES, TABLES_TEXT, deep, wide
from plansamid.texts import show_part

NO_TEXTS = [thing for thing in THINGS if not isinstance(thing, str)] + [b"0", b"", ["0"], ("0 < 0",)]
TOO_DEEP = "(" * 5 + "0" + " + 0)" * 5
SEVENTEEN = f"({show_part(wide(15))} + 0)"
NO_PARTS = [
    "", " ", "-", ".", "p", "p.", ".x", "p..x", "p.x.y", "p .x", "p. x", " p.x", "p.x ", "p.x\n", "\np.x", "P.x", "p.X",
    "abcdefghi.x", "p.abcdefghi", "p1.x", "p.x1", "p_.x", "p.x,", "00", "01", "-0", "-01", "--1", "+1", "1 ", " 1",
    "1.0", "1e3", "1_0", "0x1", "1" * 31, "-" + "1" * 31, "0" * 30, "- 1", "(p.x)", "()", "(", ")", "((p.x + 1))",
    "(p.x + 1", "p.x + 1)", "p.x + 1", "(p.x + 1))", "((p.x + 1)", "( p.x + 1)", "(p.x + 1 )", "(p.x  + 1)",
    "(p.x +  1)", "(p.x+1)", "(p.x +1)", "(p.x+ 1)", "(p.x + )", "( + 1)", "(p.x + 1 + 2)", "(p.x = 1)", "(p.x ^ 1)",
    "(p.x ++ 1)", "(p.x + 1) ", "(p.x + 1)(p.x + 1)", "(p.x + 1)0", "0(p.x + 1)", "[p.x + 1]", "(p.x plus 1)",
    "(p.x\n+ 1)", "(p.x + -0)", "(p.x - 01)", "(+ p.x 1)", "lacking p.x", "p.x = 1", TOO_DEEP, SEVENTEEN, "(" * 15000,
    "(" * 30000, ")" * 30000, "1" * 30000, "a" * 30000, "(0 + " * 6000, "(" * 4000 + "0" + " + 0)" * 4000, "~" * 30000,
    "0 " * 15000, "." * 30000,
]
NO_SIEVES = [
    "", " ", "p.x", "p.x =", "= p.x", "p.x = ", " = p.x", "p.x  = 1", "p.x =  1", "p.x = 1 ", " p.x = 1", "p.x = 1\n",
    "p.x=1", "p.x == 1", "p.x > 1", "p.x <= 1", "p.x != 1", "p.x = 1 = 1", "p.x = 1 < 1", "p.x < 1 = 1", "(p.x = 1)",
    "lacking", "lacking ", "lacking  p.x", "lacking p.x ", " lacking p.x", "lacking p.x = 1", "lackingp.x",
    "lacking lacking p.x", "Lacking p.x", "lacking (p.x)", "p.x # 01", "p.x # -0", f"{TOO_DEEP} = 1",
    f"1 # {SEVENTEEN}", f"lacking {TOO_DEEP}", "lacking " + "(" * 20000, "= " * 15000, " = " * 10000, "p.x lacking",
    "p.x = lacking 1", "sieve p.x = 1",
]


class LineCase(unittest.TestCase):

    def check(self, read, text, line):
        error = refusal(read, text)
        self.assertEqual((error.__class__, getattr(error, "line", None)), (NoText, line), repr(text)[:200])


class NoPartTest(LineCase):

    def test_what_is_none(self):
        for text in NO_PARTS + NO_TEXTS:
            self.check(read_part, text, 0)

    def test_deep_and_wide(self):
        self.assertEqual(read_part("(" * 4 + "0" + " + 0)" * 4)[0], "plus")
        self.assertEqual(read_part(show_part(deep(5))), deep(5))
        for levels in range(6, 40):
            self.check(read_part, "(" * (levels - 1) + "0" + " + 0)" * (levels - 1), 0)
            self.check(read_part, "(0 + " * (levels - 1) + "0" + ")" * (levels - 1), 0)
        self.assertEqual(read_part(show_part(wide(15))), wide(15))
        self.check(read_part, show_part(("less", wide(15), ("cell", "p", "x"))), 0)

    def test_each_sign_less_more_or_exchanged(self):
        for part, text in PARTS:
            for other in signs_bent(text):
                error = refusal(read_part, other)
                if error is None:
                    # What can be read is what is written so.
                    self.assertEqual(show_part(read_part(other)), other)
                else:
                    self.assertEqual((error.__class__, error.line), (NoText, 0))


class NoSieveTest(LineCase):

    def test_what_is_none(self):
        for text in NO_SIEVES + NO_TEXTS:
            self.check(read_sieve, text, 0)
        for part, text in PARTS:
            self.check(read_sieve, text, 0)
            self.assertIsNone(refusal(read_sieve, f"lacking {text}"))
        for text in NO_PARTS:
            for sieve in (f"lacking {text}", f"0 = {text}", f"{text} # 0"):
                if text != "p.x = 1" or sieve.startswith("lacking"):
                    self.check(read_sieve, sieve, 0)

    def test_each_sign_less_more_or_exchanged(self):
        for _, text in SIEVES:
            for other in signs_bent(text):
                error = refusal(read_sieve, other)
                self.assertTrue(error is None or (error.__class__, error.line) == (NoText, 0))
                self.assertFalse(error is None and ("  " in other or other != other.strip()))


def signs_bent(text):
    for at in range(len(text) + 1):
        yield text[:at] + text[at + 1:]
        for sign in " (-.0x=\n":
            yield text[:at] + sign + text[at:]
            yield text[:at] + sign + text[at + 1:]


HEAD = ["with p a", "with q b on x p.y"]
TELL = "tell p.x"


class NoAskTest(LineCase):

    def check_lines(self, lines, line):
        self.check(read_ask, "".join(one + "\n" for one in lines), line)

    def test_no_text_and_nothing(self):
        for thing in NO_TEXTS + ["", "\n", "\n\n", " ", "a", "~" * 30000, "with p a", "with p a" * 3000]:
            self.check(read_ask, thing, 0)

    def test_a_last_line_without_its_line_end(self):
        for _, text in ASKS:
            self.check(read_ask, text[:-1], text.count("\n") - 1)
            self.check(read_ask, text + " ", text.count("\n"))
            self.check(read_ask, text + "first 1", text.count("\n"))

    def test_lines_that_lack(self):
        for _, text in ASKS:
            lines = text.splitlines()
            told = [at for at, line in enumerate(lines) if line.split(" ")[0] in ("tell", "strike", "sum")][0]
            for many in range(1, told + 1):
                self.check_lines(lines[:many], many)

    def test_a_line_more(self):
        for _, text in ASKS:
            lines = text.splitlines()
            for line in ("", " ", "with p a", "with z a", "none z a", "sieve lacking 0", "tell 0", "strike 0",
                         "group -", "first 0", "first 61", "first x", "order", "order 9 up", "end", "sum"):
                self.check_lines(lines + [line], len(lines))
            self.check_lines([""] + lines, 0)
            self.check_lines(["tell 0"] + lines, 0)

    def test_of_another_order_or_twice(self):
        for first in ("sieve lacking 0", TELL, "strike p.x", "group -", "sum count 0", "order 0 up", "first 1"):
            self.check_lines([first] + HEAD + [TELL], 0)
        for line in ("order 0 up", "first 1", "sum count 0"):
            self.check_lines(HEAD + [line, TELL], 2)
        for line in (TELL, "strike p.x", "group -", "with r a", "perhaps r a"):
            self.check_lines(HEAD + [TELL, line], 3)
        self.check_lines(HEAD + ["sieve lacking 0", "with r a", TELL], 3)
        self.check_lines(HEAD + ["sieve lacking 0", "none r a", TELL], 3)
        self.check_lines(HEAD + [TELL, "sieve lacking 0"], 3)
        self.check_lines(HEAD + [TELL, "first 1", "order 0 up"], 4)
        self.check_lines(HEAD + [TELL, "first 1", "first 1"], 4)
        self.check_lines(HEAD + [TELL, "order 0 up", "order 0 up"], 4)
        self.check_lines(HEAD + [TELL, "order 0 up", "sum count 0"], 4)
        self.check_lines(HEAD + [TELL, "sum count 0"], 3)
        self.check_lines(HEAD + ["strike p.x", "sum count 0"], 3)
        self.check_lines(HEAD + ["group -", "order 0 up"], 3)
        self.check_lines(HEAD + ["group -", "first 1"], 3)
        self.check_lines(HEAD + ["group -", TELL], 3)
        self.check_lines(HEAD + ["group -", "sum count 0", "order 0 up", "sum count 0"], 5)
        self.check_lines(HEAD + ["group -", "sum count 0", "first 1", "sum count 0"], 5)
        self.check_lines(HEAD + ["group -", "sum count 0", TELL], 4)

    def test_sources(self):
        for line in ("with", "with ", "with p", "with p ", "with  p a", "with p  a", "with p a ", " with p a",
                     "With p a", "with p a b", "with P a", "with p abcdefghi", "with p1 a", "perhaps p a", "none p a",
                     "maybe p a", "with p a on x p.x", "with p a on", "with,p,a", "with p a\t", "withp a", "with 0 a"):
            self.check_lines([line, TELL], 0)
        for line in ("with p b", "with q b on", "with q b on x", "with q b on x p", "with q b on x p.",
                     "with q b on x .y", "with q b on x q.y", "with q b on x z.y", "with q b on x p.y on",
                     "with q b on x p.y ", "with q b on x p.y  on y p.x", "with q b on x p.y on y p.x on z p.x",
                     "with q b on x p.y.z", "with q b on X p.y", "with q b on x p.Y", "with q b on x p.y y p.x",
                     "with q b in x p.y", "with q b on x p y", "with q b x p.y", "with q on x p.y",
                     "none q b on x q.y", "perhaps p b", "with q b on  p.y", "with q b on 1 p.y",
                     "with q b  on x p.y"):
            self.check_lines(["with p a", line, TELL], 1)
        # Pairs are with joined sources that stand ahead.
        self.check_lines(["with p a", "none q b", "none r c on x q.x", TELL], 2)
        self.check_lines(["with p a", "with q b on x r.x", "with r c", TELL], 1)

    def test_too_many_sources(self):
        withs = [f"with {alias} a" for alias in "pqrs"]
        self.check_lines(withs + [TELL], 3)
        others = [f"{way} {alias} a" for way, alias in (("none", "x"), ("perhaps", "y"), ("none", "z"))]
        self.check_lines(withs[:1] + others + [TELL], 3)
        self.check_lines(withs[:3] + others + [TELL], 5)
        self.check_lines(["with p a", "none q a", "with r a", TELL], 2)

    def test_sieves(self):
        for line in ("sieve", "sieve ", "sieve p.x", "sieve  p.x = 1", "sieve p.x = 1 ", "sieve z.x = 1",
                     "sieve lacking z.x", "Sieve p.x = 1", f"sieve {TOO_DEEP} = 1", f"sieve {SEVENTEEN} = 1",
                     "sieve p.x = 01", "sieve r.x = 1"):
            self.check_lines(HEAD + ["none r c", line, TELL], 3)
        self.check_lines(HEAD + ["sieve lacking 0"] * 5 + [TELL], 6)
        self.assertIsNone(refusal(read_ask, "".join(one + "\n" for one in HEAD + ["sieve lacking 0"] * 4 + [TELL])))

    def test_tellings(self):
        for word in ("tell", "strike", "group"):
            for rest in ("", " ", " p.x,p.y", " p.x , p.y", " p.x, ", " , p.x", " p.x,  p.y", "  p.x", " p.x ", " z.x",
                         " r.x", " p.x p.y", " p.x = 1", " -, p.x", " p.x,", f" {TOO_DEEP}", f" p.x, {SEVENTEEN}",
                         " --", " (-)"):
                self.check_lines(HEAD + ["none r c", word + rest, "sum count 0"], 3)
        for line in ("tell -", "strike -", "tell 0, 0, 0, 0, 0", "strike 0, 0, 0, 0, 0", "group 0, 0, 0", "group - ",
                     "Tell 0", "tells 0"):
            self.check_lines(HEAD + [line, "sum count 0"], 2)

    def test_sums(self):
        for line in ("sum", "sum ", "sum count", "sum count ", "sum 0", "sum count  0", "sum  count 0", "sum count 0 ",
                     "sum all 0", "sum Count 0", "sum count 0, 0", "sum count z.x", "sum count r.x", "sums count 0",
                     f"sum most {TOO_DEEP}", f"sum least {SEVENTEEN}", "sum sum -"):
            self.check_lines(HEAD + ["none r c", "group -", line], 4)
        self.check_lines(HEAD + ["group -"] + ["sum count 0"] * 4, 6)

    def test_orders_and_firsts(self):
        for line in ("order", "order ", "order 0", "order up", "order 0 up ", "order  0 up", "order 0  up",
                     "order 0 Up", "order 0 up,1 up", "order 0 up, ", "order 0 up, 0 down", "order 2 up",
                     "order -1 up", "order 00 up", "order 0 up, 1 up, 0 up", "order 0 up 1 up", "order -0 up",
                     "order 0 left", "order 0, 1", "order 0 up, 2 up", "order " + "1" * 31 + " up", "first", "first ",
                     "first 0", "first 61", "first 01", "first -1", "first 1 ", "first  1", "first x", "first 1 2",
                     "first 1, 2", "first -0", "First 1", "first None", "first " + "9" * 5000):
            self.check_lines(HEAD + ["tell p.x, p.y", line], 3)
        # Of a group its keys, then its sums are told.
        self.check_lines(HEAD + ["group p.x", "sum count 0", "order 2 up"], 4)
        self.assertEqual(read_ask("with p a\ngroup p.x\nsum count 0\norder 1 up\n")[3], ((1, "up"),))

    def test_each_line_left_out_or_exchanged(self):
        for _, text in ASKS:
            lines = text.splitlines()
            for at in range(len(lines)):
                for other in (lines[:at] + lines[at + 1:], lines[:at] + [lines[at]] + lines[at:],
                              lines[:at] + lines[at:][::-1]):
                    joined = "".join(line + "\n" for line in other)
                    error = refusal(read_ask, joined)
                    if error is None:
                        continue
                    # It can't stand behind those ahead; these can.
                    self.assertIs(error.__class__, NoText)
                    for many in range(error.line):
                        shorter = refusal(read_ask, "".join(line + "\n" for line in other[:many]))
                        self.assertTrue(shorter is None or shorter.line == many, other)


class NoTablesTest(LineCase):

    def check_line(self, line, ahead=TABLES_TEXT):
        """It can't stand behind those ahead, whatever is behind it."""
        many = ahead.count("\n")
        for behind in ("\n", "", "\nrow a 1\n", "\n\n"):
            self.check(read_tables, ahead + line + behind, many)

    def test_no_text(self):
        for thing in NO_TEXTS:
            self.check(read_tables, thing, 0)

    def test_lines_that_are_none(self):
        for line in (" ", "a", "table", "table b", "table b ", "table  b x", "table b  x", "table b x ", " table b x",
                     "Table b x", "table B x", "table b X", "table abcdefghi x", "table b abcdefghi", "table b 1",
                     "table b x x", "table b v w x y z", "table b x,y", "row", "row a", "row a ", "row  a 1",
                     "row a  1", "row a 1 ", "row a x", "row a 01", "row a -0", "row a +1", "row a " + "1" * 31,
                     "row a 1.0", "row a --1", "row a -" + "9" * 31, "row a 1_0", "out", "out a", "out a ", "out a x",
                     "out a -1", "out a 01", "out a 0 0", "out a  2", "out a 2 ", "take a 1", "rows a 1", "~" * 30000,
                     "row a " + "9" * 20000, "table b " + "x " * 10000):
            self.check_line(line)

    def test_deeds_that_can_not_be_done(self):
        for line in ("table a x", "row b 1", "out b 0", "row a 1 2", "row row 1", "out a 0", "out a 2",
                     "out a " + "9" * 30, "out row 1"):
            self.check_line(line)

        for line in ("out a 0 0", "out a 0 1", "row a 1 1", "out a 0 ", "out a  0"):
            self.check_line(line, "table a x\nrow a 1\nrow a 2\n")

    def test_an_empty_line(self):
        self.check(read_tables, "\n", 0)
        self.check(read_tables, TABLES_TEXT + "\n", TABLES_TEXT.count("\n"))
        self.check(read_tables, "\n" + TABLES_TEXT, 0)

    def test_a_last_line_without_its_line_end(self):
        self.check(read_tables, TABLES_TEXT[:-1], TABLES_TEXT.count("\n") - 1)
        self.check(read_tables, "table a x", 0)
        self.check(read_tables, TABLES_TEXT + " ", TABLES_TEXT.count("\n"))
        self.check(read_tables, "~", 0)

    def test_sixty_one_rows_and_seven_tables(self):
        rows = "table a x\n" + "row a 1\n" * 60
        self.assertEqual(len(read_tables(rows).rows("a")), 60)
        self.check_line("row a 1", rows)
        self.check_line("row a 1", rows + "out a 0\n")
        tables = "".join(f"table {name} x\n" for name in "abcdef")
        self.assertEqual(len(read_tables(tables)), 6)
        self.check_line("table g x", tables)

    def test_lines_in_another_order(self):
        self.check(read_tables, "row a 1\ntable a x\n", 0)
        self.check(read_tables, "table a x\nout a 0\nrow a 1\n", 1)

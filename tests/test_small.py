import itertools
import unittest
from fractions import Fraction

from helper import refusal
from plansamid.errors import NoRule
from plansamid.hindsight import cost
from plansamid.plainly import plainly
from plansamid.plans import plans_of
from plansamid.runs import Run
from plansamid import small
from plansamid.small import held_together, small_tables, worst
from plansamid.tables import Tables


def cell(alias, column):
    return ("cell", alias, column)


def rows(*parts):
    return ("rows", parts)


# Of one table, by the column y, by x and z, by none; of two, one column each, two of b, none of a.
ONE = ((("with", "p", "a", ()),), (), rows(cell("p", "y")), (), None, False)
TWICE = ((("with", "p", "a", ()), ("with", "q", "a", (("z", "p", "x"),))), (), rows(("number", 1)), (), None, False)
NONE = ((("with", "p", "b", ()),), (), rows(("number", 7)), (), None, False)
TWO = ((("with", "p", "b", ()), ("with", "q", "a", (("y", "p", "x"),))), (), rows(("number", 1)), (), None, False)
SIEVED = ((("with", "p", "b", ()), ("none", "q", "a", ())), (("below", cell("p", "z"), cell("p", "x")),),
          ("groups", (), (("count", ("number", 1)),)), (), None, False)
SUMMED = ((("with", "p", "b", ()), ("perhaps", "q", "a", (("y", "p", "x"),))), (),
          ("groups", (cell("p", "w"),), (("most", cell("q", "y")),)), (), None, False)


def choices_of(widths, most):
    """All choices of tables of so many columns each."""
    worths = []
    for width in widths:
        lines = list(itertools.product((0, 1), repeat=width))
        worths.append([rows for many in range(most + 1) for rows in itertools.product(lines, repeat=many)])
    return sorted(itertools.product(*worths))


def made(tables, choice):
    """The tables, each a name and its columns, with the rows of the choice."""
    deeds = []
    for (name, columns), lines in zip(tables, choice):
        deeds.append(("table", name, columns))
        deeds.extend(("row", name, worths) for worths in lines)
    return Tables(deeds)


NAMED = [(ONE, [("a", ("y",))]), (TWICE, [("a", ("x", "z"))]), (NONE, [("b", ("a",))]),
         (TWO, [("a", ("y",)), ("b", ("x",))]), (SIEVED, [("a", ("a",)), ("b", ("x", "z"))]),
         (SUMMED, [("a", ("y",)), ("b", ("w", "x"))])]


def all_made(tables, most):
    return [made(tables, choice) for choice in choices_of([len(columns) for _, columns in tables], most)]


class SmallTablesTest(unittest.TestCase):

    def test_by_hand(self):
        wanted = [[], [(0,)], [(0,), (0,)], [(0,), (1,)], [(1,)], [(1,), (0,)], [(1,), (1,)]]
        self.assertEqual([[worths for _, worths in tables.rows("a")] for tables in small_tables(ONE, 2)], wanted)
        self.assertEqual([tables.columns("a") for tables in small_tables(ONE, 2)], [("y",)] * 7)
        self.assertEqual(small_tables(NONE, 0), [Tables([("table", "b", ("a",))])])
        self.assertEqual([str(tables) for tables in small_tables(ask=TWO, most=1)],
                         ["table a y\n" + a + "table b x\n" + b for a in ("", "row a 0\n", "row a 1\n")
                          for b in ("", "row b 0\n", "row b 1\n")])

    def test_which_and_in_which_order(self):
        for ask, tables in NAMED:
            for most in (0, 1, 2):
                self.assertEqual(small_tables(ask, most), all_made(tables, most))

    def test_how_many(self):
        self.assertEqual([len(small_tables(ONE, most)) for most in (0, 1, 2)], [1, 3, 7])
        self.assertEqual([len(small_tables(TWICE, most)) for most in (0, 1, 2)], [1, 5, 21])
        self.assertEqual([len(small_tables(TWO, most)) for most in (0, 1, 2)], [1, 9, 49])
        self.assertEqual([len(small_tables(SIEVED, most)) for most in (0, 1, 2)], [1, 15, 147])

    def test_columns_named_in_all_places(self):
        source = ("with", "p", "a", ())
        for ask, columns in (
                (((source,), (("lacking", cell("p", "w")),), rows(cell("p", "v")), (), None, False), ("v", "w")),
                (((source,), (), ("groups", (cell("p", "k"),), (("sum", cell("p", "j")),)), (), None, False),
                 ("j", "k")),
                (((source, ("none", "q", "a", (("n", "p", "m"),))), (), rows(("number", 1)), (), None, False),
                 ("m", "n")),
                (((source,), (), rows(("plus", cell("p", "z"), cell("p", "z")), cell("p", "b")), (), None, False),
                 ("b", "z"))):
            self.assertEqual([tables.columns("a") for tables in small_tables(ask, 0)], [columns])

    def test_each_is_its_own(self):
        tables = small_tables(ONE, 1)
        tables[0].do(("row", "a", (5,)))
        tables.clear()
        self.assertEqual(small_tables(ONE, 1)[0], Tables([("table", "a", ("y",))]))


def gone_through(tables, ask, rule):
    run = Run(tables, ask, rule=rule)
    while not run.is_done():
        run.turn()
    return run


class HeldTogetherTest(unittest.TestCase):

    def test_alike_by_rules_of_all_sorts(self):
        for ask, tables in NAMED:
            last = len(plans_of(ask)) - 1
            for rule, rule2 in ((("double",), ("stay", 0)), (("stay", last), ("guess", 1)), (("rows", 1), ("double",)),
                                (("guess", 10), ("rows", 60)), (("stay", 0), ("stay", 0))):
                looks = [sum(gone_through(one, ask, each).looks() for one in all_made(tables, 1)) for each in (rule,
                                                                                                               rule2)]
                many = len(all_made(tables, 1))
                self.assertEqual(held_together(ask, rule, rule2), ("alike", many, looks[0], looks[1]))

    def test_by_most(self):
        for most, many in ((0, 1), (1, 9), (2, 49)):
            told = held_together(TWO, ("double",), ("stay", 1), most=most)
            looks = [sum(gone_through(one, TWO, each).looks() for one in small_tables(TWO, most))
                     for each in (("double",), ("stay", 1))]
            self.assertEqual(told, ("alike", many, looks[0], looks[1]))
        self.assertEqual(held_together(ask=ONE, rule=("stay", 0), rule2=("rows", 1), most=2), ("alike", 7, 16, 20))
        self.assertRaises(TypeError, held_together, ONE, ("stay", 0), ("rows", 1), 2)

    def test_by_hand(self):
        # One visit and one row; by each row a visit of its own.
        self.assertEqual(held_together(ONE, ("stay", 0), ("rows", 1)), ("alike", 3, 4, 4))
        # Nothing is looked at where there is no row.
        self.assertEqual(held_together(NONE, ("stay", 0), ("stay", 0), most=0), ("alike", 1, 0, 0))

    def test_no_rule(self):
        for rules in ((None, ("double",)), (("double",), ("stay", 9))):
            self.assertIs(refusal(held_together, ONE, *rules).__class__, NoRule)

    def test_parted(self):
        """Were the answers of the second rule unlike, the first choice of it would be told."""
        honest = small.Run

        class Bent(honest):
            def answer(self):
                found, faults = honest.answer(self)
                return (found[1:] if self.rule() == ("rows", 1) else found, faults)

        small.Run = Bent
        try:
            self.assertEqual(held_together(ONE, ("double",), ("rows", 1)), ("parted", (((0,),),)))
            self.assertEqual(held_together(TWO, ("rows", 1), ("double",), most=2), ("parted", (((0,),), ((0,),))))
            self.assertEqual(held_together(ONE, ("rows", 1), ("rows", 1))[0], "alike")
        finally:
            small.Run = honest


class WorstTest(unittest.TestCase):

    def again(self, tables, ask, most):
        """The first choice of the most looks by the least cost."""
        told = []
        for choice in choices_of([len(columns) for _, columns in tables], most):
            one = made(tables, choice)
            looks = gone_through(one, ask, ("double",)).looks()
            least = min(cost(one, ask, plan) for plan in plans_of(ask))
            told.append((Fraction(looks, least) if looks else 0, choice, looks, least))
        most_of_all = max(share for share, *_ in told)
        return next(tuple(rest) for share, *rest in told if share == most_of_all)

    def test_against_a_second_reckoning(self):
        for ask, tables in NAMED:
            for most in (0, 1) if ask is SIEVED or ask is SUMMED else (0, 1, 2):
                self.assertEqual(worst(ask, most=most), self.again(tables, ask, most))
            self.assertEqual(worst(ask), self.again(tables, ask, 1))

    def test_ties_go_to_the_first(self):
        # By a lone row, whatever it is, 1 look and 2 in the next round, of 2 by the plan; by two rows 1, 2, 2 of 3.
        self.assertEqual(worst(ask=ONE, most=1), ((((0,),),), 3, 2))
        self.assertEqual(worst(ONE, most=2), ((((0,), (0,)),), 5, 3))
        self.assertRaises(TypeError, worst, ONE, 1)

    def test_where_nothing_is_looked_at(self):
        for ask, tables in NAMED:
            self.assertEqual(worst(ask, most=0), (tuple(() for _ in tables), 0, 0))

    def test_never_more_than_promised(self):
        for ask, _ in NAMED:
            choice, looks, least = worst(ask)
            self.assertLessEqual(looks, 4 * len(plans_of(ask)) * least)

    def test_the_answers_are_the_plain_ones(self):
        for ask, tables in NAMED:
            for one in all_made(tables, 1):
                self.assertEqual(gone_through(one, ask, ("double",)).answer(), plainly(one, ask))

import unittest

from helper import THINGS, deep, worth_of
from plansamid.errors import NoWorth
from plansamid.worths import cells_of, is_name, is_part, is_worth, may_fault, told_by

A = ("cell", "a", "x")
B = ("cell", "b", "y")
ZERO = ("number", 0)
FAULT = ("over", ("number", 1), ZERO)


def left_deep(levels, word="plus"):
    """A part of so many levels, and one less than twice as many parts."""
    part = A
    for _ in range(levels - 1):
        part = (word, part, ("number", 1))
    return part


def full(levels):
    if levels == 1:
        return A
    return ("times", full(levels - 1), full(levels - 1))


def many(part):
    return 1 if part[0] in ("cell", "number") else 1 + many(part[1]) + many(part[2])


class NameTest(unittest.TestCase):

    def test_names(self):
        for name in ("a", "z", "abcdefgh", "zzzzzzzz", "with", "none"):
            self.assertIs(is_name(name), True)

    def test_no_names(self):
        for thing in ("", "abcdefghi", "A", "aB", "a1", "1", "a b", " a", "a ", "a\n", "-", "_", "a_", "`", "{",
                      "\u00e9", "\u03b1"):
            self.assertIs(is_name(thing), False, thing)

    def test_whatever_it_is(self):
        for thing in THINGS:
            self.assertIs(is_name(thing), thing.__class__ is str and thing in ("a", "cell", "table", "lacking", "with"))


class WorthTest(unittest.TestCase):

    def test_worths(self):
        for worth in (None, 0, 1, -1, 10 ** 30 - 1, 1 - 10 ** 30, 10 ** 29):
            self.assertIs(is_worth(worth), True)

    def test_no_worths(self):
        for thing in (10 ** 30, -(10 ** 30), 10 ** 30 + 1, True, False, "1", "", (1,), [1], {1: 1}, ()):
            self.assertIs(is_worth(thing), False)

    def test_whatever_it_is(self):
        for thing in THINGS:
            wanted = thing is None or (thing.__class__ is int and abs(thing) < 10 ** 30)
            self.assertIs(is_worth(thing), wanted)


class PartTest(unittest.TestCase):

    def test_each_form(self):
        for part in (A, ZERO, ("number", 10 ** 30 - 1), ("number", 1 - 10 ** 30), ("plus", A, B), ("less", A, ZERO),
                     ("times", ZERO, B), ("over", A, ZERO), ("cell", "cell", "number"), ("cell", "a", "abcdefgh")):
            self.assertIs(is_part(part), True)

    def test_otherwise_at_one_place(self):
        wrong = [
            ("cell", "a"), ("cell", "a", "x", "y"), ("cell", "", "x"), ("cell", "a", ""), ("cell", "A", "x"),
            ("cell", "a", "abcdefghi"), ("cell", "abcdefghi", "x"), ("cell", "a", None), ("cell", None, "x"),
            ("cell", 1, "x"), ("cell", ["a"], "x"), ["cell", "a", "x"], ("cells", "a", "x"), ("Cell", "a", "x"),
            ("number",), ("number", 1, 2), ("number", True), ("number", False), ("number", None), ("number", "1"),
            ("number", 10 ** 30), ("number", -(10 ** 30)), ("number", (1,)), ["number", 1], ("number", 1, ()),
            ("plus", A), ("plus", A, B, A), ["plus", A, B], ("plus", list(A), B), ("plus", A, list(B)),
            ("plus", None, B), ("plus", A, None), ("plus", 1, 2), ("minus", A, B), (("plus",), A, B), ({}, A, B),
            ([], A, B), (None, A, B), ("over", A, ("number", True)), ("over", ("cell", "a"), B), ("times", A, ()),
            ("alike", A, B), ("lacking", A), (A, B), (A,), A + B,
        ]
        for thing in wrong:
            self.assertIs(is_part(thing), False, thing)

    def test_deep(self):
        self.assertIs(is_part(left_deep(5)), True)
        self.assertIs(is_part(left_deep(6)), False)
        right = A
        for _ in range(5):
            self.assertIs(is_part(right), True)
            right = ("less", ZERO, right)
        self.assertIs(is_part(right), False)

    def test_many(self):
        self.assertIs(is_part(full(4)), True)
        seventeen = ("plus", full(4), A)
        self.assertIs(is_part(seventeen), False)
        # Numbers count as cells do.
        left, three = ("plus", ("plus", ("plus", A, ZERO), B), ZERO), ("plus", ZERO, B)
        thirteen = ("plus", left, ("plus", three, B))
        fifteen = ("plus", left, ("plus", three, three))
        seventeen = ("plus", ("plus", left[1], three), full(3))
        self.assertEqual([many(part) for part in (thirteen, fifteen, seventeen)], [13, 15, 17])
        self.assertIs(is_part(thirteen), True)
        self.assertIs(is_part(fifteen), True)
        self.assertIs(is_part(seventeen), False)

    def test_the_same_within_counts_as_often_as_it_stands(self):
        part = A
        for _ in range(20):
            part = ("plus", part, part)
        self.assertIs(is_part(part), False)

    def test_whatever_it_is(self):
        for thing in THINGS:
            self.assertIs(is_part(thing), False)
            self.assertIs(is_part(("plus", A, thing)), False)
            self.assertIs(is_part(("plus", thing, A)), False)
            self.assertIs(is_part((thing, A, B)), False)
        self.assertIs(is_part(deep(20, A)), False)


class CellsTest(unittest.TestCase):

    def test_rising_each_once(self):
        part = ("plus", ("plus", ("cell", "b", "a"), ("cell", "a", "z")),
                ("less", ("cell", "b", "a"), ("cell", "a", "b")))
        self.assertEqual(cells_of(part), [("a", "b"), ("a", "z"), ("b", "a")])
        self.assertEqual(cells_of(A), [("a", "x")])
        self.assertEqual(cells_of(ZERO), [])
        self.assertEqual(cells_of(("over", ZERO, ("times", A, A))), [("a", "x")])

    def test_the_list_is_the_askers_own(self):
        cells_of(A).append(1)
        self.assertEqual(cells_of(A), [("a", "x")])


class MayFaultTest(unittest.TestCase):

    def test_where_an_over_is(self):
        for part in (("over", A, B), FAULT, ("plus", A, ("over", A, ("number", 2))), ("times", ("over", A, A), B),
                     ("less", A, ("plus", ("times", A, ("over", A, B)), A))):
            self.assertIs(may_fault(part), True)

    def test_where_none_is(self):
        for part in (A, ZERO, ("plus", A, B), ("less", A, B), ("times", ("plus", A, B), ZERO), ("cell", "over", "over"),
                     ("plus", ("cell", "over", "x"), ("cell", "a", "over"))):
            self.assertIs(may_fault(part), False)


class ToldTest(unittest.TestCase):

    def test_cells_and_numbers(self):
        self.assertEqual(told_by(A, {("a", "x"): 5, ("b", "x"): 7}), 5)
        self.assertIsNone(told_by(A, {("a", "x"): None}))
        self.assertEqual(told_by(("number", -3), {}), -3)

    def test_signs(self):
        look = {("a", "x"): 17, ("b", "y"): -5}
        self.assertEqual(told_by(("plus", A, B), look), 12)
        self.assertEqual(told_by(("less", A, B), look), 22)
        self.assertEqual(told_by(("less", B, A), look), -22)
        self.assertEqual(told_by(("times", A, B), look), -85)

    def test_quotients_are_the_greatest_not_above(self):
        for first, second, told in ((7, 2, 3), (-7, 2, -4), (7, -2, -4), (-7, -2, 3), (6, 3, 2), (-6, 3, -2), (0, 5, 0),
                                    (0, -5, 0), (1, 2, 0), (-1, 2, -1), (1, -2, -1), (-1, -2, 0)):
            part = ("over", ("number", first), ("number", second))
            self.assertEqual(told_by(part, {}), told)
        for first in range(-12, 13):
            for second in range(-5, 6):
                part = ("over", ("number", first), ("number", second))
                if second:
                    self.assertEqual(told_by(part, {}), worth_of(part, {}))

    def test_none_on_either_side(self):
        for word in ("plus", "less", "times", "over"):
            for first, second in ((None, 3), (3, None), (None, None), (None, 0)):
                self.assertIsNone(told_by((word, A, B), {("a", "x"): first, ("b", "y"): second}))

    def test_refused_of_nought(self):
        for first in (1, 0, -1):
            with self.assertRaises(NoWorth):
                told_by(("over", A, B), {("a", "x"): first, ("b", "y"): 0})
        with self.assertRaises(NoWorth):
            told_by(("over", A, ("less", B, B)), {("a", "x"): 1, ("b", "y"): 4})

    def test_none_beside_a_refusal(self):
        look = {("a", "x"): None}
        for word in ("plus", "less", "times", "over"):
            for part in ((word, A, FAULT), (word, FAULT, A), (word, ZERO, FAULT), (word, FAULT, ZERO)):
                with self.assertRaises(NoWorth):
                    told_by(part, look)
                with self.assertRaises(NoWorth):
                    told_by(("plus", ("times", A, part), A), look)

    def test_more_figures_in_between(self):
        great = ("number", 10 ** 30 - 1)
        square = ("times", great, great)
        self.assertEqual(told_by(square, {}), (10 ** 30 - 1) ** 2)
        self.assertEqual(told_by(("over", square, great), {}), 10 ** 30 - 1)
        self.assertEqual(told_by(("times", square, square), {}), (10 ** 30 - 1) ** 4)
        self.assertEqual(told_by(("over", ("less", ZERO, square), ("number", 10 ** 29)), {}),
                         -((10 ** 30 - 1) ** 2 // 10 ** 29) - 1)

    def test_arguments_by_their_names(self):
        self.assertEqual(told_by(part=A, look={("a", "x"): 1}), 1)
        self.assertIs(is_name(thing="a") and is_worth(thing=1) and is_part(thing=A), True)
        self.assertEqual(cells_of(part=A), [("a", "x")])
        self.assertIs(may_fault(part=A), False)

    def test_look_is_not_changed(self):
        look = {("a", "x"): 1, ("b", "y"): 2}
        told_by(("plus", A, B), look)
        self.assertEqual(look, {("a", "x"): 1, ("b", "y"): 2})

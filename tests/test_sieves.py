import unittest

from helper import THINGS, deep
from plansamid.errors import NoWorth
from plansamid.sieves import holds, is_sieve, sieve_cells, sieve_may_fault

A = ("cell", "a", "x")
B = ("cell", "b", "y")
ZERO = ("number", 0)
FAULT = ("over", ("number", 1), ZERO)
DEEP = ("plus", ("plus", ("plus", ("plus", A, B), B), B), B)


def look(first, second=0):
    return {("a", "x"): first, ("b", "y"): second}


class SieveTest(unittest.TestCase):

    def test_each_form(self):
        for sieve in (("alike", A, B), ("unlike", A, ZERO), ("below", FAULT, B), ("lacking", A), ("lacking", FAULT),
                      ("lacking", ZERO), ("alike", DEEP, DEEP)):
            self.assertIs(is_sieve(sieve), True)

    def test_otherwise_at_one_place(self):
        wrong = [
            ["alike", A, B], ("alike", A), ("alike", A, B, A), ("alike", list(A), B), ("alike", A, list(B)),
            ("alike", A, None), ("alike", None, B), ("like", A, B), ("above", A, B), ("lacking",), ("lacking", A, B),
            ["lacking", A], ("lacking", list(A)), ("lacking", None), ("lack", A), (None, A), (("alike",), A, B),
            ([], A, B), ({}, A), ("alike", ("cell", "a"), B), ("below", A, ("number", True)), ("plus", A, B), A, ZERO,
            ("lacking", ("lacking", A)), ("alike", ("plus", DEEP, A), B), ("alike", A, ("plus", DEEP, A)),
            ("lacking", ("plus", DEEP, A)),
        ]
        for thing in wrong:
            self.assertIs(is_sieve(thing), False, thing)

    def test_whatever_it_is(self):
        for thing in THINGS:
            self.assertIs(is_sieve(thing), False)
            self.assertIs(is_sieve(("alike", thing, B)), False)
            self.assertIs(is_sieve(("alike", A, thing)), False)
            self.assertIs(is_sieve((thing, A, B)), False)
            self.assertIs(is_sieve((thing, A)), thing == "lacking")
        self.assertIs(is_sieve(deep(20, ("alike", A, B))), False)


class SieveTellsTest(unittest.TestCase):

    def test_cells_rising_each_once(self):
        sieve = ("alike", ("plus", ("cell", "b", "a"), A), ("less", A, ("cell", "a", "b")))
        self.assertEqual(sieve_cells(sieve), [("a", "b"), ("a", "x"), ("b", "a")])
        self.assertEqual(sieve_cells(("lacking", ("plus", B, A))), [("a", "x"), ("b", "y")])
        self.assertEqual(sieve_cells(("below", ZERO, ZERO)), [])

    def test_may_fault(self):
        for sieve in (("alike", A, FAULT), ("below", FAULT, A), ("lacking", ("plus", A, ("over", A, ("number", 1))))):
            self.assertIs(sieve_may_fault(sieve), True)
        for sieve in (("alike", A, B), ("lacking", A), ("unlike", ("cell", "over", "over"), ZERO)):
            self.assertIs(sieve_may_fault(sieve), False)


class HoldsTest(unittest.TestCase):

    def test_by_each_word(self):
        for first in (-2, 0, 3):
            for second in (-2, 0, 3):
                self.assertIs(holds(("alike", A, B), look(first, second)), first == second)
                self.assertIs(holds(("unlike", A, B), look(first, second)), first != second)
                self.assertIs(holds(("below", A, B), look(first, second)), first < second)
            self.assertIs(holds(("lacking", A), look(first)), False)
        self.assertIs(holds(("lacking", A), look(None)), True)
        self.assertIs(holds(("lacking", ("plus", A, B)), look(1, None)), True)

    def test_none_holds_by_lacking_alone(self):
        for word in ("alike", "unlike", "below"):
            for first, second in ((None, 0), (0, None), (None, None)):
                self.assertIs(holds((word, A, B), look(first, second)), False)

    def test_refused_in_either_part(self):
        for word in ("alike", "unlike", "below"):
            for worth in (None, 0, 1):
                for sieve in ((word, FAULT, A), (word, A, FAULT), (word, FAULT, FAULT)):
                    with self.assertRaises(NoWorth):
                        holds(sieve, look(worth))
        with self.assertRaises(NoWorth):
            holds(("lacking", FAULT), {})
        with self.assertRaises(NoWorth):
            holds(("lacking", ("plus", A, FAULT)), look(None))

    def test_more_figures_than_thirty(self):
        square = ("times", ("number", 10 ** 30 - 1), ("number", 10 ** 30 - 1))
        self.assertIs(holds(("below", square, ("plus", square, ("number", 1))), {}), True)
        self.assertIs(holds(("alike", square, square), {}), True)

    def test_arguments_by_their_names(self):
        self.assertIs(holds(sieve=("lacking", A), look=look(None)), True)
        self.assertIs(is_sieve(thing=("lacking", A)), True)
        self.assertEqual(sieve_cells(sieve=("lacking", A)), [("a", "x")])
        self.assertIs(sieve_may_fault(sieve=("lacking", A)), False)

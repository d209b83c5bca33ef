"""The names and arguments that the document lists, each in its file."""

import importlib
import inspect
import unittest

FUNCTIONS = {
    "worths": ["is_name(thing)", "is_worth(thing)", "is_part(thing)", "cells_of(part)", "may_fault(part)",
               "told_by(part, look)"],
    "sieves": ["is_sieve(thing)", "sieve_cells(sieve)", "sieve_may_fault(sieve)", "holds(sieve, look)"],
    "asks": ["is_ask(thing)", "is_sorted(ask)", "need_ask(tables, ask, *, moment=None)"],
    "endings": ["rows_of(ask, found)"],
    "plainly": ["plainly(tables, ask, *, moment=None)", "combinations(tables, ask, *, moment=None)",
                "founds(tables, ask, *, moment=None)"],
    "plans": ["plans_of(ask)", "links_of(ask, plan)"],
    "counts": ["counts_of(tables, *, moment=None)", "guess(ask, plan, counts)", "guessed(ask, counts)"],
    "boxes": ["are_whole(sizes, thing)", "slab_of(slabs, positions)", "met_by(sizes, slabs)", "left(sizes, slabs)"],
    "early": ["dropped(sieves, seen)"],
    "leading": ["led(tables, ask, plan, yet, *, moment=None, kept=None, budget=None)"],
    "rules": ["is_rule(ask, thing)", "visit_at(ask, rule, counts, k)"],
}
METHODS = {
    ("tables", "Tables"): ["__init__(self, deeds=())", "do(self, deed)", "moment(self)",
                           "rows(self, name, *, moment=None)", "columns(self, name, *, moment=None)",
                           "names(self, *, moment=None)", "deeds(self)", "twin(self)"],
}


class InterfaceTest(unittest.TestCase):

    def check(self, module, function, line):
        self.assertEqual(function.__name__ + str(inspect.signature(function)), line)
        self.assertEqual(function.__module__, module.__name__)

    def test_functions(self):
        for name, lines in FUNCTIONS.items():
            module = importlib.import_module(f"plansamid.{name}")
            for line in lines:
                self.check(module, getattr(module, line.partition("(")[0]), line)

    def test_methods(self):
        for (name, kind), lines in METHODS.items():
            module = importlib.import_module(f"plansamid.{name}")
            for line in lines:
                self.check(module, vars(getattr(module, kind))[line.partition("(")[0]], line)

"""The names and arguments that the document lists, each in its file."""

import importlib
import inspect
import unittest

FUNCTIONS = {
    "worths": ["is_name(thing)", "is_worth(thing)", "is_part(thing)", "cells_of(part)", "may_fault(part)",
               "told_by(part, look)"],
    "sieves": ["is_sieve(thing)", "sieve_cells(sieve)", "sieve_may_fault(sieve)", "holds(sieve, look)"],
    "asks": ["is_ask(thing)", "is_sorted(ask)", "need_ask(tables, ask, *, moment=None)"],
    "endings": ["rows_of(ask, found)"],
    "plainly": ["plainly(tables, ask, *, moment=None)", "combinations(tables, ask, *, moment=None)",
                "founds(tables, ask, *, moment=None)"],
    "plans": ["plans_of(ask)", "links_of(ask, plan)"],
    "counts": ["counts_of(tables, *, moment=None)", "guess(ask, plan, counts)", "guessed(ask, counts)"],
    "boxes": ["are_whole(sizes, thing)", "slab_of(slabs, positions)", "met_by(sizes, slabs)", "left(sizes, slabs)"],
    "early": ["dropped(sieves, seen)"],
    "leading": ["led(tables, ask, plan, yet, *, moment=None, kept=None, budget=None)"],
    "rules": ["is_rule(ask, thing)", "visit_at(ask, rule, counts, k)"],
    "visits": ["begun(tables, ask, plan, *, moment=None, rooms=20)"],
    "hindsight": ["cost(tables, ask, plan, *, moment=None, rooms=20, starts=None)", "hindsight(run)", "share(run)"],
    "stands": ["stand_of(run)", "taken_up(tables, stand, *, watcher=None)"],
    "looker": ["lets_answer(tables, ask, thing, *, moment=None)", "lets_slabs(run, thing)"],
    "whys": ["became(run, places)", "why_not(tables, ask, places, *, moment=None)",
             "lets_why(tables, ask, places, thing, *, moment=None)"],
    "small": ["small_tables(ask, most)", "held_together(ask, rule, rule2, *, most=1)", "worst(ask, *, most=1)"],
    "texts": ["show_part(part)", "show_sieve(sieve)", "show_ask(ask)", "show_tables(tables)"],
    "reader": ["read_part(text)", "read_sieve(text)", "read_ask(text)", "read_tables(text)"],
    "standtexts": ["show_stand(stand)", "show_house(house)", "read_stand(text)", "read_house(text)"],
}
METHODS = {
    ("tables", "Tables"): ["__init__(self, deeds=())", "do(self, deed)", "moment(self)",
                           "rows(self, name, *, moment=None)", "columns(self, name, *, moment=None)",
                           "names(self, *, moment=None)", "deeds(self)", "twin(self)"],
    ("piles", "Pile"): ["__init__(self, hand)", "put(self, row)", "lend(self, n)", "call_back(self, n)", "end(self)",
                        "merge(self)", "lots(self)", "steps(self)", "hand(self)", "told(self)"],
    ("runs", "Run"): ["__init__(self, tables, ask, *, rule=('double',), moment=None, counts=None, rooms=20, hand=8, "
                      "starts=None, watcher=None)",
                      "turn(self)", "told(self)", "answer(self)", "looks(self)", "steps(self)", "rooms(self)",
                      "hand(self)", "moment(self)", "slabs(self)", "visits(self)", "now_plan(self)", "starts(self)",
                      "ask(self)", "rule(self)", "tables(self)", "lend(self, n)", "call_back(self, n)",
                      "lend_hand(self, n)", "call_back_hand(self, n)", "is_done(self)", "__len__(self)",
                      "__repr__(self)"],
    ("kept", "Kept"): ["__init__(self)", "want(self, table, column, moment, now)"],
    ("house", "House"): ["__init__(self, *, rooms=100)", "do(self, deed)", "tables(self)",
                         "begin(self, name, ask, *, rule=('double',), rooms=20, hand=8, along=False)",
                         "turn(self, name)", "share(self, table)", "run(self, name)", "names(self)",
                         "next_row(self, table)", "saved(self)", "lend(self, name, n)", "call_back(self, name, n)",
                         "let_go(self, name)", "stop(self, name)", "take_up(self, name, stand)", "__len__(self)"],
    ("desk", "Desk"): ["__init__(self)", "say(self, row)"],
}


class InterfaceTest(unittest.TestCase):

    def check(self, module, function, line):
        self.assertEqual(function.__name__ + str(inspect.signature(function)), line)
        self.assertEqual(function.__module__, module.__name__)

    def test_functions(self):
        for name, lines in FUNCTIONS.items():
            module = importlib.import_module(f"plansamid.{name}")
            for line in lines:
                self.check(module, getattr(module, line.partition("(")[0]), line)

    def test_methods(self):
        for (name, kind), lines in METHODS.items():
            module = importlib.import_module(f"plansamid.{name}")
            for line in lines:
                self.check(module, vars(getattr(module, kind))[line.partition("(")[0]], line)

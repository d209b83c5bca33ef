import itertools
import random
import unittest

from helper import some_ask
from plansamid.plans import links_of, plans_of


def ask_of(*sources):
    return (sources, (), ("rows", (("cell", "p", "x"),)), (), None, False)


P = ("with", "p", "a", ())
CHAIN = ask_of(P, ("with", "q", "b", (("x", "p", "y"),)), ("with", "r", "c", (("z", "q", "w"),)))


class PlansOfTest(unittest.TestCase):

    def test_one_source(self):
        self.assertEqual(plans_of(ask_of(P)), [((0,), "walked")])
        for way in ("none", "perhaps"):
            self.assertEqual(plans_of(ask_of(P, (way, "t", "b", ()))), [((0,), "walked")])
            self.assertEqual(plans_of(ask_of(P, (way, "t", "b", (("x", "p", "x"),)))),
                             [((0,), "kept"), ((0,), "walked")])
            self.assertEqual(plans_of(ask_of(P, (way, "t", "b", ()), (way, "u", "b", (("x", "p", "x"),)))),
                             [((0,), "kept"), ((0,), "walked")])

    def test_without_a_pair_all_is_walked(self):
        self.assertEqual(plans_of(ask_of(P, ("with", "q", "b", ()))), [((0, 1), "walked"), ((1, 0), "walked")])
        three = plans_of(ask_of(P, ("with", "q", "b", ()), ("with", "r", "a", ())))
        self.assertEqual(three, [(order, "walked") for order in itertools.permutations(range(3))])

    def test_with_a_pair_each_order_is_kept_and_walked(self):
        self.assertEqual(plans_of(ask_of(P, ("with", "q", "b", (("x", "p", "x"),)))),
                         [((0, 1), "kept"), ((0, 1), "walked"), ((1, 0), "kept"), ((1, 0), "walked")])
        self.assertEqual(plans_of(CHAIN), [(order, way) for order in itertools.permutations(range(3))
                                           for way in ("kept", "walked")])

    def test_a_pair_of_an_other_one_alone(self):
        ask = ask_of(P, ("with", "q", "b", ()), ("perhaps", "s", "c", (("x", "q", "x"),)))
        self.assertEqual(plans_of(ask), [((0, 1), "kept"), ((0, 1), "walked"), ((1, 0), "kept"), ((1, 0), "walked")])

    def test_they_rise_and_are_the_askers_own(self):
        chance = random.Random(2)
        for _ in range(100):
            ask = some_ask(chance)
            plans = plans_of(ask=ask)
            self.assertIs(plans.__class__, list)
            self.assertEqual(plans, sorted(set(plans)))
            plans.clear()
            self.assertTrue(plans_of(ask))


class LinksOfTest(unittest.TestCase):

    def test_told_one_way_and_turned_about(self):
        ask = ask_of(P, ("with", "q", "b", (("x", "p", "y"),)))
        for way in ("kept", "walked"):
            self.assertEqual(links_of(ask, ((0, 1), way)), {1: ("x", "p", "y")})
            self.assertEqual(links_of(ask, ((1, 0), way)), {0: ("y", "q", "x")})
        self.assertEqual(links_of(ask=ask, plan=((1, 0), "kept")), {0: ("y", "q", "x")})

    def test_a_chain_by_each_order(self):
        wanted = {
            (0, 1, 2): {1: ("x", "p", "y"), 2: ("z", "q", "w")}, (0, 2, 1): {1: ("x", "p", "y")},
            (1, 0, 2): {0: ("y", "q", "x"), 2: ("z", "q", "w")}, (1, 2, 0): {0: ("y", "q", "x"), 2: ("z", "q", "w")},
            (2, 0, 1): {1: ("x", "p", "y")}, (2, 1, 0): {1: ("w", "r", "z"), 0: ("y", "q", "x")},
        }
        for order, links in wanted.items():
            self.assertEqual(links_of(CHAIN, (order, "kept")), links)
            self.assertEqual(links_of(CHAIN, (order, "walked")), links)

    def test_several_pairs_between_two(self):
        ask = ask_of(P, ("with", "q", "b", (("m", "p", "n"), ("k", "p", "l"))))
        self.assertEqual(links_of(ask, ((0, 1), "kept")), {1: ("m", "p", "n")})
        self.assertEqual(links_of(ask, ((1, 0), "kept")), {0: ("n", "q", "m")})

    def test_the_first_by_the_sources_that_have_them(self):
        # Of r to p and to q; of q to p: whichever is last, the pair of the lesser source goes first.
        ask = ask_of(P, ("with", "q", "b", (("c", "p", "d"),)), ("with", "r", "c", (("e", "q", "f"), ("g", "p", "h"))))
        wanted = {
            (0, 1, 2): {1: ("c", "p", "d"), 2: ("e", "q", "f")}, (0, 2, 1): {2: ("g", "p", "h"), 1: ("c", "p", "d")},
            (1, 0, 2): {0: ("d", "q", "c"), 2: ("e", "q", "f")}, (1, 2, 0): {2: ("e", "q", "f"), 0: ("d", "q", "c")},
            (2, 0, 1): {0: ("h", "r", "g"), 1: ("c", "p", "d")}, (2, 1, 0): {1: ("f", "r", "e"), 0: ("d", "q", "c")},
        }
        for order, links in wanted.items():
            self.assertEqual(links_of(ask, (order, "kept")), links)

    def test_sources_without_a_pair(self):
        ask = ask_of(P, ("with", "q", "b", ()), ("with", "r", "c", (("e", "p", "f"),)))
        self.assertEqual(links_of(ask, ((0, 1, 2), "kept")), {2: ("e", "p", "f")})
        self.assertEqual(links_of(ask, ((1, 2, 0), "kept")), {0: ("f", "r", "e")})
        self.assertEqual(links_of(ask, ((2, 0, 1), "walked")), {0: ("f", "r", "e")})
        self.assertEqual(links_of(ask_of(P), ((0,), "walked")), {})

    def test_none_and_perhaps_ones_have_their_first_pair(self):
        ask = ask_of(P, ("with", "q", "b", ()), ("none", "t", "c", (("m", "q", "n"), ("k", "p", "l"))),
                     ("perhaps", "s", "c", (("i", "p", "j"),)))
        for order in ((0, 1), (1, 0)):
            for way in ("kept", "walked"):
                self.assertEqual(links_of(ask, (order, way)), {2: ("m", "q", "n"), 3: ("i", "p", "j")})
        bare = ask_of(P, ("none", "t", "c", ()), ("perhaps", "s", "c", (("i", "p", "j"),)))
        self.assertEqual(links_of(bare, ((0,), "kept")), {2: ("i", "p", "j")})

    def test_pairs_of_other_ones_tie_no_with_ones(self):
        ask = ask_of(P, ("with", "q", "b", ()), ("none", "t", "a", (("m", "p", "n"), ("k", "q", "l"))))
        self.assertEqual(links_of(ask, ((0, 1), "kept")), {2: ("m", "p", "n")})

    def test_a_table_with_itself_is_told_apart_by_aliases(self):
        ask = ask_of(P, ("with", "q", "a", (("x", "p", "y"),)), ("with", "r", "a", (("x", "q", "y"),)))
        self.assertEqual(links_of(ask, ((0, 2, 1), "kept")), {1: ("x", "p", "y")})
        self.assertEqual(links_of(ask, ((2, 1, 0), "kept")), {1: ("y", "r", "x"), 0: ("y", "q", "x")})

    def test_what_is_told_is_the_askers_own(self):
        links = links_of(CHAIN, ((0, 1, 2), "kept"))
        self.assertIs(links.__class__, dict)
        links.clear()
        self.assertEqual(len(links_of(CHAIN, ((0, 1, 2), "kept"))), 2)

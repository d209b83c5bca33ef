import itertools
import unittest

from plansamid.early import dropped

CELL = ("cell", "p", "x")
PLAIN = ("below", CELL, ("number", 3))
DIVIDED = ("alike", ("over", CELL, ("cell", "p", "y")), ("number", 1))
DEEP = ("lacking", ("plus", ("number", 1), ("times", CELL, ("over", ("number", 1), CELL))))


def by_words(sieves, seen):
    """Some one doesn't hold, and each one ahead of it held, or wasn't looked at and may not fault."""
    for number in range(len(sieves)):
        if number in seen and seen[number] is False:
            ahead = [seen[k] is True if k in seen else "over" not in repr(sieves[k]) for k in range(number)]
            if all(ahead):
                return True
    return False


class DroppedTest(unittest.TestCase):

    def test_none_at_all(self):
        self.assertIs(dropped((), {}), False)

    def test_one(self):
        for sieve in (PLAIN, DIVIDED, DEEP):
            self.assertIs(dropped((sieve,), {}), False)
            self.assertIs(dropped((sieve,), {0: True}), False)
            self.assertIs(dropped((sieve,), {0: False}), True)
            self.assertIs(dropped((sieve,), {0: None}), False)

    def test_one_ahead(self):
        self.assertIs(dropped((PLAIN, PLAIN), {1: False}), True)
        self.assertIs(dropped((PLAIN, PLAIN), {0: True, 1: False}), True)
        for sieve in (DIVIDED, DEEP):
            self.assertIs(dropped((sieve, PLAIN), {1: False}), False)
            self.assertIs(dropped((sieve, PLAIN), {0: True, 1: False}), True)
            self.assertIs(dropped((sieve, PLAIN), {0: None, 1: False}), False)
            self.assertIs(dropped((sieve, PLAIN), {0: False}), True)
        # It is as it was looked at, be there a division in it or not.
        self.assertIs(dropped((PLAIN, PLAIN), {0: None, 1: False}), False)

    def test_one_behind_takes_nothing_back(self):
        for behind in ({}, {1: True}, {1: False}, {1: None}):
            self.assertIs(dropped((PLAIN, DIVIDED), {0: False, **behind}), True)
            self.assertIs(dropped((PLAIN, DIVIDED), {0: None, **behind}), False)

    def test_each_way_of_up_to_four(self):
        for many in range(5):
            for sieves in itertools.product((PLAIN, DIVIDED), repeat=many):
                for ways in itertools.product((True, False, None, "not"), repeat=many):
                    seen = {k: way for k, way in enumerate(ways) if way != "not"}
                    wanted = by_words(sieves, seen)
                    self.assertIs(dropped(sieves, seen), wanted, (sieves, seen))
                    turned = {k: seen[k] for k in reversed(seen)}
                    self.assertIs(dropped(seen=turned, sieves=sieves), wanted, (sieves, turned))

    def test_what_is_handed_in_stays(self):
        sieves, seen = (DIVIDED, PLAIN), {1: False, 0: True}
        dropped(sieves, seen)
        self.assertEqual((sieves, seen), ((DIVIDED, PLAIN), {1: False, 0: True}))
        self.assertEqual(list(seen), [1, 0])

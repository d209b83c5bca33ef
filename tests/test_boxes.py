import itertools
import random
import unittest

from helper import THINGS
from plansamid.boxes import are_whole, left, met_by, slab_of


def some_whole(chance, sizes):
    """Whole slabs for the sizes, by chance."""
    rest, slabs = list(sizes), []
    while 0 not in rest:
        source = chance.randrange(len(rest))
        many = chance.randrange(1, rest[source] + 1)
        slabs.append((source, many))
        rest[source] -= many
    return slabs


def walked_through(sizes, slabs):
    """For each choice the numbers of the slabs that meet it, by going through all choices slab by slab."""
    done = [0] * len(sizes)
    meets = {choice: [] for choice in itertools.product(*[range(size) for size in sizes])}
    for number, (source, many) in enumerate(slabs):
        for choice, met in meets.items():
            yet = all(position >= first for position, first in zip(choice, done))
            if yet and choice[source] in range(done[source], done[source] + many):
                met.append(number)
        done[source] += many
    return meets


# Slabs that are whole for their sizes.
WHOLE = [
    ([3], [(0, 3)]), ([3], [(0, 1), (0, 2)]), ([1], [(0, 1)]),
    ([2, 3], [(1, 3)]), ([2, 3], [(0, 2)]), ([2, 3], [(0, 1), (1, 1), (1, 1), (0, 1)]),
    ([2, 3], [(0, 1), (1, 2), (1, 1)]), ([2, 2, 2], [(2, 1), (1, 1), (0, 1), (1, 1)]),
    ([0], []), ([0, 3], []), ([4, 0, 2], []),
]
# Those of them in which something is met.
SIZED = [(sizes, slabs) for sizes, slabs in WHOLE if slabs]


class AreWholeTest(unittest.TestCase):

    def test_whole_ones(self):
        for sizes, slabs in WHOLE:
            self.assertIs(are_whole(sizes, slabs), True, (sizes, slabs))

    def test_left_short(self):
        for sizes, slabs in SIZED:
            for many in range(len(slabs)):
                self.assertIs(are_whole(sizes, slabs[:many]), False, (sizes, slabs[:many]))
            source, many = slabs[-1]
            if many > 1:
                self.assertIs(are_whole(sizes, slabs[:-1] + [(source, many - 1)]), False)

    def test_one_more_behind_the_end(self):
        for sizes, slabs in SIZED:
            for source in range(len(sizes)):
                self.assertIs(are_whole(sizes, slabs + [(source, 1)]), False, (sizes, slabs, source))
        self.assertIs(are_whole([2, 3], [(1, 3), (0, 1)]), False)

    def test_a_slab_that_is_none(self):
        bad = [(0, 0), (0, -1), (0, 3), (2, 1), (-1, 1), (3, 2), (-2, 2), (10 ** 99, 1), (0, 10 ** 99),
               (-(10 ** 99), 1), (0, -(10 ** 99))]
        for slab in bad:
            self.assertIs(are_whole([2, 2], [slab, (1, 2)]), False, slab)
            self.assertIs(are_whole([2, 2], [(1, 1), slab]), False, slab)
        # Two rows are left of it, behind one.
        self.assertIs(are_whole([3], [(0, 1), (0, 3)]), False)
        self.assertIs(are_whole([3], [(0, 1), (0, 2)]), True)

    def test_truths_are_no_numbers(self):
        for slab in ((False, 1), (0, True), (False, True)):
            self.assertIs(are_whole([1], [slab]), False)
        self.assertIs(are_whole([1, 1], [(True, 1)]), False)

    def test_forms(self):
        for thing in ([[0, 2]], ((0, 2),), [(0, 2, 0)], [(0,)], [()], [0], ["02"], [None], [{0: 2}], {(0, 2): 1}, "02",
                      (0, 2), [("0", "2")], [(0, None)], [(None, 2)], [((0,), 2)], [(0, [2])]):
            self.assertIs(are_whole([2], thing), False, thing)

    def test_whatever_it_is(self):
        for thing in THINGS:
            self.assertIs(are_whole([2, 3], thing), False)
            self.assertIs(are_whole(thing=[thing], sizes=[1]), False)
            self.assertIs(are_whole([2, 0], thing), thing == [] and isinstance(thing, list))

    def test_a_size_of_none(self):
        for thing in ([(1, 3)], [(1, 1)], [(0, 0)], (), None, {}, ""):
            self.assertIs(are_whole([0, 3], thing), False)

    def test_by_every_row_of_slabs(self):
        slabs = [(source, many) for source in range(2) for many in range(1, 3)]
        for sizes in ([1, 1], [1, 2], [2, 2]):
            for many in range(5):
                for thing in itertools.product(slabs, repeat=many):
                    rest, whole = list(sizes), True
                    for source, rows in thing:
                        whole = whole and min(rest) > 0 and rows <= rest[source]
                        rest[source] -= rows
                    self.assertIs(are_whole(sizes, list(thing)), whole and 0 in rest, (sizes, thing))


class SlabOfTest(unittest.TestCase):

    def test_each_choice_is_met_in_just_one(self):
        chance = random.Random(5)
        cases = list(SIZED)
        for _ in range(60):
            sizes = [chance.randrange(1, 5) for _ in range(chance.randrange(1, 4))]
            cases.append((sizes, some_whole(chance, sizes)))
        for sizes, slabs in cases:
            for choice, met in walked_through(sizes, slabs).items():
                self.assertEqual([slab_of(slabs, choice)], met, (sizes, slabs, choice))

    def test_by_hand(self):
        slabs = [(0, 1), (1, 2), (1, 1)]
        self.assertEqual([slab_of(slabs, choice) for choice in itertools.product(range(2), range(3))],
                         [0, 0, 0, 1, 1, 2])
        self.assertEqual(slab_of(positions=(1, 2), slabs=slabs), 2)

    def test_none_where_some_slabs_have_not_met_it(self):
        self.assertIsNone(slab_of([], (0,)))
        self.assertIsNone(slab_of([], (0, 0, 0)))
        self.assertIsNone(slab_of([(0, 1)], (1, 0)))
        self.assertEqual(slab_of([(0, 1), (1, 1)], (1, 0)), 1)
        self.assertIsNone(slab_of([(0, 1), (1, 1)], (1, 1)))
        chance = random.Random(6)
        for _ in range(60):
            sizes = [chance.randrange(1, 5) for _ in range(chance.randrange(1, 4))]
            slabs = some_whole(chance, sizes)[:-1]
            for choice, met in walked_through(sizes, slabs).items():
                self.assertEqual(slab_of(slabs, choice), met[0] if met else None)


class CountsTest(unittest.TestCase):

    def test_met_by_and_left(self):
        self.assertEqual(met_by([2, 3], [(0, 1), (1, 2), (1, 1)]), [3, 2, 1])
        self.assertEqual(left([2, 3], [(0, 1), (1, 2), (1, 1)]), [1, 0])
        self.assertEqual(met_by([4], [(0, 1), (0, 3)]), [1, 3])
        self.assertEqual(met_by([2, 3, 4], [(2, 1), (0, 1), (1, 3)]), [6, 9, 9])
        self.assertEqual(left(slabs=[(2, 1), (0, 1)], sizes=[2, 3, 4]), [1, 3, 3])
        self.assertEqual(met_by(slabs=[], sizes=[2, 3]), [])
        self.assertEqual(left([2, 3], []), [2, 3])
        self.assertEqual(met_by([0, 3], []), [])
        self.assertEqual(left([0, 3], []), [0, 3])

    def test_behind_the_end(self):
        self.assertEqual(met_by([2, 3], [(0, 2), (1, 1), (1, 2)]), [6, 0, 0])
        self.assertEqual(left([2, 3], [(0, 2), (1, 1)]), [0, 2])
        self.assertEqual(left([2, 3], [(0, 2), (1, 3)]), [0, 0])
        self.assertEqual(met_by([0, 3], [(1, 1), (1, 2)]), [0, 0])
        self.assertEqual(left([0, 3], [(1, 1)]), [0, 2])

    def test_whole_ones_meet_as_many_as_there_are(self):
        chance = random.Random(7)
        for _ in range(60):
            sizes = [chance.randrange(1, 6) for _ in range(chance.randrange(1, 4))]
            slabs = some_whole(chance, sizes)
            many = 1
            for size in sizes:
                many *= size
            self.assertEqual(sum(met_by(sizes, slabs)), many)
            self.assertIn(0, left(sizes, slabs))
            by_slab = [0] * len(slabs)
            for met in walked_through(sizes, slabs).values():
                by_slab[met[0]] += 1
            self.assertEqual(met_by(sizes, slabs), by_slab)

    def test_what_is_handed_in_stays_and_what_is_told_is_the_askers_own(self):
        sizes, slabs, choice = [2, 3], [(0, 1), (1, 3)], (1, 1)
        for _ in range(2):
            self.assertIs(are_whole(sizes, slabs), True)
            self.assertEqual(slab_of(slabs, choice), 1)
            met, rest = met_by(sizes, slabs), left(sizes, slabs)
            self.assertEqual((met, rest), ([3, 3], [1, 0]))
            met.clear()
            rest.append(5)
            self.assertEqual((sizes, slabs, choice), ([2, 3], [(0, 1), (1, 3)], (1, 1)))
        left(sizes, [])[0] = 9
        self.assertEqual(sizes, [2, 3])

import random
import unittest

from helper import Plain, places_key, rows_told, some_ask, some_tables
from plansamid.endings import rows_of
from plansamid.tables import Tables

SOURCES = (("with", "p", "a", ()), ("perhaps", "s", "b", ()))
X = ("cell", "p", "x")


def rows_ask(parts=2, order=(), first=None, struck=False):
    return (SOURCES, (), ("rows", (X,) * parts), order, first, struck)


def groups_ask(keys, words, order=(), first=None):
    return (SOURCES, (), ("groups", (X,) * keys, tuple((word, X) for word in words)), order, first, False)


FOUND = [((1, None), (5, None)), ((0, 2), (None, 7)), ((10, 0), (5, None)), ((0, 10), (3, -8)), ((9, None), (None, 7)),
         ((0, 1), (3, 8))]
IN_ORDER = [FOUND[5], FOUND[1], FOUND[3], FOUND[0], FOUND[4], FOUND[2]]


class RowsOfTest(unittest.TestCase):

    def test_in_the_order_of_places(self):
        self.assertEqual(rows_of(rows_ask(), FOUND), [(worths, [places]) for places, worths in IN_ORDER])
        self.assertEqual(rows_of(rows_ask(), []), [])

    def test_none_ahead_of_numbers(self):
        found = [((0, 0), (1, 1)), ((0, None), (2, 2)), ((None, 5), (3, 3)), ((None, None), (4, 4))]
        self.assertEqual([worths[0] for worths, _ in rows_of(rows_ask(), found)], [4, 3, 2, 1])

    def test_struck(self):
        self.assertEqual(rows_of(rows_ask(struck=True), FOUND),
                         [((3, 8), [(0, 1)]), ((None, 7), [(0, 2), (9, None)]), ((3, -8), [(0, 10)]),
                          ((5, None), [(1, None), (10, 0)])])
        self.assertEqual(rows_of(rows_ask(struck=True, first=2), FOUND),
                         [((3, 8), [(0, 1)]), ((None, 7), [(0, 2), (9, None)])])

    def numbers(self, order, first=None):
        rows = rows_of(rows_ask(order=order, first=first), FOUND)
        return [IN_ORDER.index((places[0], worths)) for worths, places in rows]

    def test_sorted(self):
        # In order the first worths are 3, None, 3, 5, None, 5, the second 8, 7, -8, None, 7, None.
        self.assertEqual(self.numbers(((0, "up"),)), [1, 4, 0, 2, 3, 5])
        self.assertEqual(self.numbers(((0, "down"),)), [3, 5, 0, 2, 1, 4])
        self.assertEqual(self.numbers(((1, "up"),)), [3, 5, 2, 1, 4, 0])
        self.assertEqual(self.numbers(((1, "down"),)), [0, 1, 4, 2, 3, 5])
        self.assertEqual(self.numbers(((0, "up"), (1, "up"))), [1, 4, 2, 0, 3, 5])
        self.assertEqual(self.numbers(((0, "up"), (1, "down"))), [1, 4, 0, 2, 3, 5])
        self.assertEqual(self.numbers(((1, "down"), (0, "down"))), [0, 1, 4, 2, 3, 5])
        self.assertEqual(self.numbers(((0, "down"), (1, "up"))), [3, 5, 2, 0, 1, 4])

    def test_the_first_so_many(self):
        for first in range(1, 8):
            self.assertEqual(self.numbers(((0, "down"),), first), [3, 5, 0, 2, 1, 4][:first])
            self.assertEqual(self.numbers((), first), list(range(6))[:first])

    def test_sorted_by_great_ones(self):
        found = [((at, None), (worth, 0)) for at, worth in enumerate((10 ** 60, -(10 ** 60), 10 ** 60 + 1, 0))]
        self.assertEqual([worths[0] for worths, _ in rows_of(rows_ask(order=((0, "up"),)), found)],
                         [-(10 ** 60), 0, 10 ** 60, 10 ** 60 + 1])
        self.assertEqual([worths[0] for worths, _ in rows_of(rows_ask(order=((0, "down"),)), found)],
                         [10 ** 60 + 1, 10 ** 60, 0, -(10 ** 60)])

    def test_groups(self):
        self.assertEqual(rows_of(groups_ask(1, ("sum",)), FOUND),
                         [((3, 0), [(0, 1), (0, 10)]), ((None, 14), [(0, 2), (9, None)]),
                          ((5, 0), [(1, None), (10, 0)])])
        self.assertEqual(rows_of(groups_ask(0, ("count", "sum")), FOUND),
                         [((4, 14), [places for places, _ in IN_ORDER])])

    def test_each_word(self):
        found = [((at, None), (worth,) * 3) for at, worth in enumerate((None, 4, -3, None, 4, 9))]
        self.assertEqual(rows_of(groups_ask(0, ("count", "sum", "least")), found)[0][0], (4, 14, -3))
        self.assertEqual(rows_of(groups_ask(0, ("most", "count", "least")), found)[0][0], (9, 4, -3))
        alone = [((0, None), (None,) * 3), ((1, None), (None,) * 3)]
        self.assertEqual(rows_of(groups_ask(0, ("count", "sum", "least")), alone)[0][0], (0, 0, None))
        self.assertEqual(rows_of(groups_ask(0, ("most", "most", "sum")), alone)[0][0], (None, None, 0))

    def test_groups_of_none_found_none(self):
        for keys in range(3):
            self.assertEqual(rows_of(groups_ask(keys, ("count",)), []), [])

    def test_groups_sorted_by_keys_and_sums(self):
        rows = rows_of(groups_ask(1, ("sum",), order=((1, "down"), (0, "up"))), FOUND)
        self.assertEqual([worths for worths, _ in rows], [(None, 14), (3, 0), (5, 0)])
        rows = rows_of(groups_ask(1, ("least",), order=((1, "up"),), first=2), FOUND)
        self.assertEqual([worths for worths, _ in rows], [(5, None), (3, -8)])

    def test_two_keys(self):
        found = [((at, None), worths) for at, worths in enumerate(((1, 2, 5), (2, 1, 6), (1, 2, 7), (1, None, 8)))]
        self.assertEqual(rows_of(groups_ask(2, ("sum",)), found),
                         [((1, 2, 12), [(0, None), (2, None)]), ((2, 1, 6), [(1, None)]), ((1, None, 8), [(3, None)])])

    def test_what_is_handed_in_stays(self):
        found = list(FOUND)
        for ask in (rows_ask(), rows_ask(struck=True), groups_ask(1, ("sum",))):
            rows = rows_of(ask=ask, found=found)
            self.assertEqual(found, FOUND)
            rows[0][1].append(1)
            rows.pop()
            self.assertEqual(found, FOUND)
            self.assertNotEqual(rows_of(ask, found), rows)

    def test_found_in_any_order(self):
        chance = random.Random(5)
        many = 0
        for _ in range(600):
            tables, ask = Tables(some_tables(chance)), some_ask(chance)
            found = Plain(tables, ask).found_rows()
            wanted = rows_told(ask, sorted(found, key=lambda one: places_key(one[0])))
            for _ in range(3):
                chance.shuffle(found)
                self.assertEqual(rows_of(ask, found), wanted)
            many += len(found) > 3
        self.assertGreater(many, 60)

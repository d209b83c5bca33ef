import random
import unittest

from helper import Plain, begun_again, some_ask, some_tables
from plansamid.plans import plans_of
from plansamid.tables import Tables
from plansamid.visits import begun


def ask_of(*sources):
    return (sources, (), ("rows", (("cell", "p", "x"),)), (), None, False)


# a has 2 rows, b 3, c 4, d none.
TABLES = Tables([("table", name, ("x", "y")) for name in "abcd"] +
                [("row", name, (k, 0)) for name, many in (("a", 2), ("b", 3), ("c", 4)) for k in range(many)])
P = ("with", "p", "a", ())
Q = ("with", "q", "b", (("x", "p", "x"),))
CHAIN = ask_of(P, Q, ("with", "r", "c", (("x", "q", "x"),)), ("none", "s", "b", (("x", "p", "x"),)),
               ("perhaps", "t", "a", ()))


class BegunTest(unittest.TestCase):

    def test_walked_it_is_one_look(self):
        for ask in (ask_of(P), ask_of(P, Q), CHAIN):
            for plan in plans_of(ask):
                if plan[1] == "walked":
                    for rooms in (0, 3, 100):
                        self.assertEqual(begun(TABLES, ask, plan, rooms=rooms), (1, ()))

    def test_all_that_are_kept_in_the_order_in_which_they_are_led_to(self):
        # Behind the order s is kept, t has no link. Led by p or r, q is between the two.
        wanted = {(0, 1, 2): (1 + 3 + 4 + 3, (1, 2, 3)), (0, 2, 1): (1 + 3 + 3, (1, 3)),
                  (1, 0, 2): (1 + 2 + 4 + 3, (0, 2, 3)), (1, 2, 0): (1 + 4 + 2 + 3, (2, 0, 3)),
                  (2, 0, 1): (1 + 3 + 3, (1, 3)), (2, 1, 0): (1 + 3 + 2 + 3, (1, 0, 3))}
        for order, told in wanted.items():
            self.assertEqual(begun(TABLES, CHAIN, (order, "kept")), told)
            self.assertEqual(begun(TABLES, CHAIN, (order, "kept"), rooms=100), told)

    def test_rooms(self):
        plan = ((1, 2, 0), "kept")
        # c takes 4 of the rooms, then a 2, then b 3; what doesn't fit is passed over.
        wanted = {0: (1, ()), 1: (1, ()), 2: (3, (0,)), 3: (3, (0,)), 4: (5, (2,)), 5: (5, (2,)), 6: (7, (2, 0)),
                  8: (7, (2, 0)), 9: (10, (2, 0, 3)), 10: (10, (2, 0, 3))}
        for rooms, told in wanted.items():
            self.assertEqual(begun(TABLES, CHAIN, plan, rooms=rooms), told, rooms)
        self.assertEqual(begun(TABLES, CHAIN, ((0, 1, 2), "kept"), rooms=6), (1 + 3 + 3, (1, 3)))
        self.assertEqual(begun(TABLES, CHAIN, ((0, 1, 2), "kept"), rooms=7), (1 + 3 + 4, (1, 2)))

    def test_rooms_are_twenty_by_default(self):
        tables = Tables([("table", "a", ("x",))] + [("row", "a", (1,))] * 20)
        ask = ask_of(P, ("with", "q", "a", (("x", "p", "x"),)))
        self.assertEqual(begun(tables, ask, ((0, 1), "kept")), (21, (1,)))
        tables.do(("row", "a", (1,)))
        self.assertEqual(begun(tables, ask, ((0, 1), "kept")), (1, ()))
        self.assertEqual(begun(tables, ask, ((0, 1), "kept"), rooms=21), (22, (1,)))

    def test_tables_of_no_rows_need_no_rooms(self):
        ask = ask_of(P, ("none", "s", "d", (("x", "p", "x"),)), ("perhaps", "t", "b", (("x", "p", "x"),)))
        self.assertEqual(begun(TABLES, ask, ((0,), "kept"), rooms=0), (1, (1,)))
        self.assertEqual(begun(TABLES, ask, ((0,), "kept"), rooms=3), (4, (1, 2)))

    def test_elder_moments(self):
        tables = Tables(TABLES.deeds())
        then = tables.moment()
        tables.do(("out", "b", 0))
        for plan, now in ((((0, 1), "kept"), (3, (1,))), (((1, 0), "kept"), (3, (0,)))):
            self.assertEqual(begun(tables, ask_of(P, Q), plan), now)
            self.assertEqual(begun(tables, ask_of(P, Q), plan, moment=tables.moment()), now)
        self.assertEqual(begun(tables, ask_of(P, Q), ((0, 1), "kept"), moment=then), (4, (1,)))
        self.assertEqual(begun(tables, ask_of(P, Q), ((0, 1), "kept"), moment=4), (1, (1,)))
        self.assertEqual(begun(tables=tables, ask=ask_of(P, Q), plan=((0, 1), "kept"), moment=7, rooms=0), (1, ()))

    def test_seeded_asks(self):
        chance = random.Random(19)
        for _ in range(150):
            ask, tables, rooms = some_ask(chance), Tables(some_tables(chance)), chance.randrange(14)
            for plan in plans_of(ask):
                self.assertEqual(begun(tables, ask, plan, rooms=rooms), begun_again(Plain(tables, ask), plan, rooms))

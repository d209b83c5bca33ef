import unittest

from plansamid.kept import Kept


class KeptTest(unittest.TestCase):

    def test_made_at_first_and_had_from_then_on(self):
        kept = Kept()
        self.assertIs(kept.want("a", "x", 5, 7), False)
        # It was made at 7, not at 5.
        for moment in (0, 4, 5, 6, 7):
            for now in (7, 8, 30):
                self.assertIs(kept.want("a", "x", moment, now), True)

    def test_made_anew_where_it_is_elder_than_the_moment(self):
        kept = Kept()
        kept.want("a", "x", 5, 7)
        self.assertIs(kept.want("a", "x", 8, 9), False)
        self.assertIs(kept.want("a", "x", 9, 10), True)
        self.assertIs(kept.want("a", "x", 10, 12), False)
        self.assertIs(kept.want("a", "x", 12, 40), True)
        self.assertIs(kept.want("a", "x", 13, 40), False)

    def test_what_is_had_is_not_made_anew(self):
        kept = Kept()
        kept.want("a", "x", 1, 2)
        self.assertIs(kept.want("a", "x", 1, 9), True)
        self.assertIs(kept.want("a", "x", 3, 9), False)

    def test_at_the_first_moments(self):
        kept = Kept()
        self.assertIs(kept.want("a", "x", 0, 0), False)
        self.assertIs(kept.want("a", "x", 0, 0), True)
        self.assertIs(kept.want("a", "x", 1, 1), False)

    def test_each_table_and_column_by_itself(self):
        names = [("a", "x"), ("a", "y"), ("b", "x"), ("ab", "c"), ("a", "bc"), ("abcdefgh", "x"), ("abcdefgi", "x"),
                 ("x", "a"), ("aa", "x"), ("a", "xx")]
        kept = Kept()
        for table, column in names:
            self.assertIs(kept.want(table, column, 3, 3), False)
        for k, (table, column) in enumerate(names):
            self.assertIs(kept.want(table, column, 4, 4 + k), False)
            for other, other_column in names[:k + 1]:
                self.assertIs(kept.want(other, other_column, 4, 99), True)
            for other, other_column in names[k + 1:]:
                self.assertIs(kept.want(other, other_column, 3, 99), True)

    def test_two_know_nothing_of_one_another(self):
        first, second = Kept(), Kept()
        self.assertIs(first.want("a", "x", 1, 1), False)
        self.assertIs(second.want("a", "x", 1, 5), False)
        self.assertIs(first.want("a", "x", 2, 2), False)
        self.assertIs(second.want(table="a", column="x", moment=2, now=9), True)

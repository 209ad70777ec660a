"""Points 9, 10 and 12: products of tables, what fits behind and ahead, and repetition."""

import unittest

from murmurline.errors import BadCount, BadSize, SizeMismatch
from murmurline.tables import Table, joined
from tests.helper import FORTY, MurmurCase, all_tables, behind, rows_of_pairs, some_tables


def couples():
    """Pairs of tables of one size: all of the sizes 1 and 2, some of the others."""
    found = [(one, other) for size in (1, 2) for one in all_tables(size) for other in all_tables(size)]
    for size in range(3, 7):
        ends = [Table.identity(size), Table.empty(size), Table.full(size)]
        ones = some_tables(size, 8, 3) + ends
        others = some_tables(size, 8, 4) + ends
        found += [(one, other) for one in ones for other in others]
    return found


class Products(MurmurCase):
    def test_product_by_its_definition(self):
        for first, last in couples():
            pairs, others = first.pairs(), last.pairs()
            expected = rows_of_pairs(first.size, behind(first.size, set(pairs), set(others)))
            self.assertEqual((first * last).rows(), expected)
            self.assertEqual(first.pairs(), pairs)
            self.assertEqual(last.pairs(), others)

    def test_the_order_matters(self):
        first, last = Table([[1], [1]]), Table([[0], [0]])
        self.assertEqual((first * last).rows(), [[0], [0]])
        self.assertEqual((last * first).rows(), [[1], [1]])

    def test_joined(self):
        for size in range(1, 7):
            self.assertEqual(joined(size=size), Table.identity(size))
            one, two, three = some_tables(size, 3, 5)
            self.assertEqual(joined(one, size=size), one)
            self.assertEqual(joined(one, two, size=size), one * two)
            self.assertEqual(joined(one, two, three, one, size=size), one * two * three * one)

    def test_joined_needs_its_size_by_keyword(self):
        with self.assertRaises(TypeError):
            joined(Table.identity(2))

    def test_joined_with_a_bad_size(self):
        for size in [-FORTY, -1, 0, 7, FORTY]:
            self.refused(BadSize(size), lambda: joined(size=size))
            self.refused(BadSize(size), lambda: joined(Table.identity(2), Table.identity(3), size=size))

    def test_joined_with_tables_of_other_sizes(self):
        two, three, four = Table.identity(2), Table.identity(3), Table.empty(4)
        self.refused(SizeMismatch(2, 3), lambda: joined(three, size=2))
        self.refused(SizeMismatch(2, 3), lambda: joined(two, two, three, four, size=2))
        self.refused(SizeMismatch(3, 4), lambda: joined(three, four, two, size=3))
        self.refused(SizeMismatch(1, 4), lambda: joined(four, four, size=1))


class Fitting(MurmurCase):
    def test_every_table_of_size_two_that_fits_is_contained(self):
        for first in all_tables(2):
            for whole in all_tables(2):
                after, ahead = first >> whole, whole << first
                for x in all_tables(2):
                    self.assertIs(x <= after, first * x <= whole)
                    self.assertIs(x <= ahead, x * first <= whole)

    def test_every_table_of_size_three_that_fits_is_contained(self):
        tables = all_tables(3)
        for first, whole in zip(some_tables(3, 6, 6), some_tables(3, 6, 7)):
            after, ahead = first >> whole, whole << first
            for x in tables:
                self.assertIs(x <= after, first * x <= whole)
                self.assertIs(x <= ahead, x * first <= whole)

    def test_the_greatest_table_that_fits(self):
        # The pairs that fit alone make up the greatest table: products of unions are unions of products.
        for first, whole in couples():
            size = first.size
            single = [Table.of(size, [pair]) for pair in Table.full(size)]
            after = [x.pairs()[0] for x in single if first * x <= whole]
            ahead = [x.pairs()[0] for x in single if x * first <= whole]
            self.assertEqual((first >> whole).pairs(), after)
            self.assertEqual((whole << first).pairs(), ahead)

    def test_the_operands_stay(self):
        first, whole = Table([[1], [0]]), Table([[0, 1], []])
        self.assertEqual((first >> whole).rows(), [[], [0, 1]])
        self.assertEqual((whole << first).rows(), [[0, 1], []])
        self.assertEqual(first.rows(), [[1], [0]])
        self.assertEqual(whole.rows(), [[0, 1], []])

    def test_no_word_leads_to_some_word(self):
        first = Table([[0], [0], [2]])
        whole = Table([[1], [1], []])
        self.assertEqual((first >> whole).rows(), [[1], [0, 1, 2], []])

    def test_nothing_comes_out_of_some_word(self):
        last = Table([[1], [], [2]])
        whole = Table([[1], [], [0]])
        self.assertEqual((whole << last).rows(), [[0, 1], [1], [1]])

    def test_no_table_at_all(self):
        for size in range(1, 7):
            full, empty = Table.full(size), Table.empty(size)
            self.assertEqual(empty >> empty, full)
            self.assertEqual(empty << empty, full)
            self.assertEqual(full >> empty, empty)
            self.assertEqual(empty << full, empty)


class Repeating(MurmurCase):
    def test_small_counts(self):
        for size in range(1, 7):
            for table in some_tables(size, 6, 8):
                expected = Table.identity(size)
                for count in range(20):
                    self.assertEqual(table.repeated(count), expected)
                    expected = expected * table

    def test_none_and_one(self):
        table = Table([[1], [], [0, 2]])
        self.assertEqual(table.repeated(0), Table.identity(3))
        self.assertEqual(table.repeated(1), table)
        self.assertEqual(table.rows(), [[1], [], [0, 2]])

    def test_long_counts_around_a_circle(self):
        circle = Table([[1], [2], [3], [4], [5], [0]])
        for count in [10 ** 6 + 1, 10 ** 20 + 3, 10 ** 39, FORTY, FORTY - 1, FORTY - 5]:
            expected = [[(word + count) % 6] for word in range(6)]
            self.assertEqual(self.at_once(lambda: circle.repeated(count)).rows(), expected)

    def test_long_counts_of_other_tables(self):
        growing = Table([[0, 1], [2], [3], [4], [5], [5]])
        self.assertEqual(self.at_once(lambda: growing.repeated(FORTY)), growing.repeated(10))
        self.assertEqual(self.at_once(lambda: Table.empty(4).repeated(FORTY)), Table.empty(4))
        # Circles of two and of three words: the sixth power is the identity.
        circles = Table([[1], [0], [3], [4], [2]])
        for count in range(FORTY - 6, FORTY):
            self.assertEqual(self.at_once(lambda: circles.repeated(count)), circles.repeated(count % 6))

    def test_bad_count(self):
        for count in [-1, -2, -FORTY]:
            self.refused(BadCount(count), lambda: Table.identity(3).repeated(count))


if __name__ == "__main__":
    unittest.main()

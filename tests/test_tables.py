"""Points 2 and 4 to 8: what a table is made of, and how tables compare."""

import unittest

from murmurline.errors import BadSize, BadTable, SizeMismatch, UnknownWord
from murmurline.tables import Table
from tests.helper import FORTY, MurmurCase, all_rows, all_tables, pair_list, rows_of_pairs, some_rows, some_tables

WRONG_SIZES = [-FORTY, -1, 0, 7, 8, 100, FORTY]


def each_rows():
    """All rows of the sizes 1 and 2, and some of each other size."""
    found = all_rows(1) + all_rows(2)
    for size in range(1, 7):
        found += some_rows(size, 10) + [[[]] * size, [list(range(size))] * size]
    return found


class Creating(MurmurCase):
    def test_rows_and_size(self):
        for rows in each_rows():
            table = Table(rows)
            self.assertEqual(table.rows(), rows)
            self.assertEqual(table.size, len(rows))

    def test_words_in_descending_order_and_twice(self):
        table = Table([[2, 0, 2], [], [2, 1, 0, 1, 2]])
        self.assertEqual(table.rows(), [[0, 2], [], [0, 1, 2]])
        self.assertEqual(table.pairs(), [(0, 0), (0, 2), (2, 0), (2, 1), (2, 2)])
        self.assertEqual(len(table), 5)
        self.assertEqual(table, Table([[0, 2], [], [0, 1, 2]]))
        self.assertEqual(str(table), "0>0,2 1>- 2>0,1,2")

    def test_bad_size(self):
        for count in [0, 7, 8, 20]:
            self.refused(BadSize(count), lambda: Table([[]] * count))
            self.refused(BadSize(count), lambda: Table([[FORTY]] * count))

    def test_bad_table(self):
        for size in range(1, 7):
            for wrong in [-1, -size, size, size + 1, FORTY, -FORTY]:
                for index in range(size):
                    rows = [[0] for _ in range(size)]
                    rows[index] = [0, wrong]
                    self.refused(BadTable(index), lambda: Table(rows))

    def test_the_first_bad_list_counts(self):
        self.refused(BadTable(1), lambda: Table([[0], [1, 0, 3], [-1]]))
        self.refused(BadTable(0), lambda: Table([[-1], [3], [0]]))
        self.refused(BadTable(2), lambda: Table([[0], [], [0, 1, 2, 3]]))

    def test_the_passed_lists_are_copied(self):
        rows = [[1, 0], [1]]
        table = Table(rows)
        self.assertEqual(rows, [[1, 0], [1]])
        rows[0].append(0)
        rows[1].clear()
        rows.append([0])
        self.assertEqual(table.rows(), [[0, 1], [1]])
        self.assertEqual(table.size, 2)
        self.assertEqual(len(table), 3)

    def test_the_returned_lists_are_new(self):
        table = Table([[1, 0], [1]])
        rows = table.rows()
        rows[0].append(7)
        rows.append([])
        table.pairs().append((1, 0))
        table[0].append(7)
        table([1]).append(0)
        self.assertEqual(table.rows(), [[0, 1], [1]])
        self.assertEqual(table.pairs(), [(0, 0), (0, 1), (1, 1)])
        self.assertEqual(table[0], [0, 1])
        self.assertEqual(table([1]), [1])


class Reading(MurmurCase):
    def test_word(self):
        for rows in each_rows():
            table = Table(rows)
            for word in range(len(rows)):
                self.assertEqual(table[word], rows[word])

    def test_word_that_is_none(self):
        for size in range(1, 7):
            table = Table.full(size)
            for word in [-FORTY, -size, -1, size, size + 1, FORTY]:
                self.refused(UnknownWord(word), lambda: table[word])

    def test_words(self):
        for rows in each_rows():
            table = Table(rows)
            last = len(rows) - 1
            for words in [[], [0], [last], [last, 0], [0, 0, last], list(range(len(rows)))]:
                expected = sorted({out for word in words for out in rows[word]})
                self.assertEqual(table(words), expected)

    def test_no_words(self):
        self.assertEqual(Table([[0, 1], [1]])([]), [])

    def test_words_are_not_changed(self):
        words = [2, 0, 2]
        self.assertEqual(Table([[2], [0], [1]])(words), [1, 2])
        self.assertEqual(words, [2, 0, 2])

    def test_words_of_which_one_is_none(self):
        table = Table([[0], [1], [2]])
        self.refused(UnknownWord(3), lambda: table([0, 3, -1]))
        self.refused(UnknownWord(-1), lambda: table([-1, 3]))
        self.refused(UnknownWord(FORTY), lambda: table([2, 1, 0, FORTY]))

    def test_pairs_iteration_and_length(self):
        for rows in each_rows():
            table = Table(rows)
            pairs = pair_list(rows)
            self.assertEqual(table.pairs(), pairs)
            self.assertEqual([pair for pair in table], pairs)
            self.assertEqual(list(table), pairs)
            self.assertEqual(len(table), len(pairs))
            self.assertIs(bool(table), len(pairs) > 0)
            self.assertTrue(all(type(pair) is tuple for pair in table.pairs() + list(table)))

    def test_two_iterations_at_the_same_time(self):
        table = Table([[0, 1], [1]])
        self.assertEqual(len([(one, other) for one in table for other in table]), 9)

    def test_contains(self):
        for rows in each_rows():
            table = Table(rows)
            for told in range(-1, 8):
                for out in range(-1, 8):
                    expected = 0 <= told < len(rows) and out in rows[told]
                    self.assertIs((told, out) in table, expected)
                    self.assertIs((told, out) not in table, not expected)
        self.assertIs((FORTY, -FORTY) in Table.full(6), False)

    def test_total_and_certain(self):
        for rows in each_rows():
            self.assertIs(Table(rows).total, all(len(row) >= 1 for row in rows))
            self.assertIs(Table(rows).certain, all(len(row) <= 1 for row in rows))

    def test_total_and_certain_are_read_only(self):
        table = Table.identity(2)
        with self.assertRaises(AttributeError):
            table.total = False
        with self.assertRaises(AttributeError):
            table.certain = False

    def test_str_and_repr(self):
        self.assertEqual(str(Table([[]])), "0>-")
        self.assertEqual(str(Table([[0]])), "0>0")
        self.assertEqual(str(Table([[1, 0], [], [2]])), "0>0,1 1>- 2>2")
        self.assertEqual(str(Table.full(6)), " ".join(f"{word}>0,1,2,3,4,5" for word in range(6)))
        self.assertEqual(repr(Table([[1, 0], [], [2]])), "Table([[0, 1], [], [2]])")
        self.assertEqual(repr(Table([[]])), "Table([[]])")
        for rows in each_rows():
            self.assertEqual(repr(Table(rows)), "Table(" + str(rows) + ")")


class Making(MurmurCase):
    def test_identity_full_and_empty(self):
        for size in range(1, 7):
            words = range(size)
            self.assertEqual(Table.identity(size).pairs(), [(word, word) for word in words])
            self.assertEqual(Table.full(size).pairs(), [(a, b) for a in words for b in words])
            self.assertEqual(Table.empty(size).pairs(), [])
            for table in [Table.identity(size), Table.full(size), Table.empty(size)]:
                self.assertEqual(table.size, size)

    def test_of_pairs(self):
        for rows in each_rows():
            size = len(rows)
            pairs = pair_list(rows)
            for told in [pairs, pairs[::-1], pairs + pairs, Table(rows)]:
                table = Table.of(size, told)
                self.assertEqual(table.rows(), rows)
                self.assertEqual(table.size, size)

    def test_of_leaves_its_list_alone(self):
        pairs = [(1, 0), (0, 1), (1, 0)]
        table = Table.of(2, pairs)
        self.assertEqual(pairs, [(1, 0), (0, 1), (1, 0)])
        pairs.append((1, 1))
        self.assertEqual(table.rows(), [[1], [0]])

    def test_of_a_table_of_another_size(self):
        self.assertEqual(Table.of(4, Table([[1], [0]])).rows(), [[1], [0], [], []])
        self.assertEqual(Table.of(2, Table([[1], [0], []])).rows(), [[1], [0]])
        self.refused(UnknownWord(2), lambda: Table.of(2, Table([[1], [2], [0]])))

    def test_most(self):
        self.assertEqual(Table.MOST, 6)
        self.assertEqual(Table.empty(1).MOST, 6)

    def test_bad_size(self):
        for size in WRONG_SIZES:
            self.refused(BadSize(size), lambda: Table.identity(size))
            self.refused(BadSize(size), lambda: Table.full(size))
            self.refused(BadSize(size), lambda: Table.empty(size))
            self.refused(BadSize(size), lambda: Table.of(size, []))

    def test_bad_size_comes_ahead_of_unknown_word(self):
        for size in WRONG_SIZES:
            self.refused(BadSize(size), lambda: Table.of(size, [(-1, -1)]))

    def test_unknown_word_in_the_order_of_the_pairs(self):
        self.refused(UnknownWord(3), lambda: Table.of(3, [(0, 0), (3, -1), (4, 5)]))
        self.refused(UnknownWord(-1), lambda: Table.of(3, [(2, -1), (3, 3)]))
        self.refused(UnknownWord(-2), lambda: Table.of(3, [(-2, 0)]))
        self.refused(UnknownWord(FORTY), lambda: Table.of(6, [(5, 5), (0, FORTY)]))

    def test_they_are_called_off_the_class_and_off_a_table(self):
        self.assertEqual(Table([[0]]).identity(2), Table.identity(2))
        self.assertEqual(Table([[0]]).of(2, [(0, 1)]), Table([[1], []]))


class Comparing(MurmurCase):
    def test_equal(self):
        for one in all_rows(2):
            for other in all_rows(2):
                self.assertIs(Table(one) == Table(other), one == other)
                self.assertIs(Table(one) != Table(other), one != other)

    def test_tables_of_another_size_are_not_equal(self):
        self.assertIs(Table.empty(2) == Table.empty(3), False)
        self.assertIs(Table.empty(2) != Table.empty(3), True)
        self.assertIs(Table.of(2, [(0, 1)]) == Table.of(3, [(0, 1)]), False)

    def test_what_is_no_table_is_not_equal(self):
        table = Table([[0], [1]])
        for other in [[[0], [1]], [(0, 0), (1, 1)], ((0,), (1,)), 2, None, "0>0 1>1", True, False]:
            self.assertIs(table == other, False)
            self.assertIs(other == table, False)
            self.assertIs(table != other, True)

    def test_contained_united_and_common(self):
        for size in range(1, 7):
            tables = all_tables(size) if size < 3 else some_tables(size, 15) + some_tables(size, 5, 2)
            for one in tables:
                for other in tables:
                    self.compare(size, one, other)

    def compare(self, size, one, other):
        mine, others = set(one.pairs()), set(other.pairs())
        self.assertIs(one <= other, mine <= others)
        self.assertIs(one < other, mine < others)
        self.assertEqual((one | other).rows(), rows_of_pairs(size, mine | others))
        self.assertEqual((one & other).rows(), rows_of_pairs(size, mine & others))
        self.assertIs(one <= one | other, True)
        self.assertIs(one & other <= one, True)
        self.assertEqual(set(one.pairs()), mine)
        self.assertEqual(set(other.pairs()), others)

    def test_less_is_not_less_than_itself(self):
        for table in all_tables(2):
            self.assertIs(table < table, False)
            self.assertIs(table < Table(table.rows()), False)
            self.assertIs(table <= Table(table.rows()), True)

    def test_turned(self):
        for rows in each_rows():
            table = Table(rows)
            expected = rows_of_pairs(len(rows), [(out, told) for told, out in pair_list(rows)])
            self.assertEqual((~table).rows(), expected)
            self.assertEqual(table.rows(), rows)
            self.assertEqual(~~table, table)

    def test_other_sizes(self):
        for first in range(1, 7):
            for second in range(1, 7):
                if first != second:
                    self.refuse_sizes(Table.full(first), Table.empty(second))

    def refuse_sizes(self, one, other):
        error = SizeMismatch(one.size, other.size)
        self.refused(error, lambda: one <= other)
        self.refused(error, lambda: one < other)
        self.refused(error, lambda: one | other)
        self.refused(error, lambda: one & other)
        self.refused(error, lambda: one * other)
        self.refused(error, lambda: one >> other)
        self.refused(error, lambda: one << other)


if __name__ == "__main__":
    unittest.main()

"""Points 2, 21 and 22: what only loses more, and what can be told back."""

import itertools
import unittest

from murmurline.errors import SizeMismatch, UnknownWord
from murmurline.losing import earlier, further, lost_holds, lost_pair, told_back
from murmurline.tables import Table
from tests.helper import FORTY, Draws, MurmurCase, all_tables, behind, pair_list, some_tables


def greatest_of(tables):
    """The one of the tables that contains all others, or None if there are no tables."""
    best = None
    for table in tables:
        if best is None or set(best.pairs()) < set(table.pairs()):
            best = table
    assert all(set(table.pairs()) <= set(best.pairs()) for table in tables)
    return best


def products(first, last):
    return behind(first.size, set(first.pairs()), set(last.pairs()))


def greatest_behind(first, whole):
    """The pairs (mid, out) that alone lead to nothing outside `whole`, which make up the greatest table that fits."""
    pairs = set(whole.pairs())
    return {
        (mid, out) for mid in range(first.size) for out in range(first.size)
        if all((told, out) in pairs for told, met in first.pairs() if met == mid)
    }


def pair_lost(first, whole):
    """The paper of point 21, worked out with sets of pairs."""
    size = first.size
    have, want = set(first.pairs()), set(whole.pairs())
    missing = sorted(want - behind(size, have, greatest_behind(first, whole)))
    if not missing:
        return None
    told, out = missing[0]
    mids = [mid for mid in range(size) if (told, mid) in have]
    others = [min(word for word in range(size) if (word, mid) in have and (word, out) not in want) for mid in mids]
    return told, out, list(zip(mids, others))


def is_lost(first, whole, paper):
    """Whether the paper has the properties of point 21."""
    told, out, blocks = paper
    have, want = set(first.pairs()), set(whole.pairs())
    right = all(
        (told, mid) in have and (other, mid) in have and (other, out) not in want for mid, other in blocks
    )
    mids = {mid for met, mid in have if met == told}
    return (told, out) in want and right and mids <= {mid for mid, _ in blocks}


def couples():
    """Pairs of tables: all of the sizes 1 and 2; of greater ones drawn pairs, and pairs of which one loses more."""
    found = [(one, other) for size in (1, 2) for one in all_tables(size) for other in all_tables(size)]
    for size in range(3, 7):
        ones = some_tables(size, 10, 1) + [Table.identity(size), Table.empty(size), Table.full(size)]
        others = some_tables(size, 10, 2) + [Table.identity(size), Table.empty(size), Table.full(size)]
        found += [(one, other) for one in ones for other in others]
        found += [(one, one * other) for one in ones for other in others]
        found += [(one, other * one) for one in ones for other in others]
    return found


class LosingMore(MurmurCase):
    def test_all_tables_of_size_two(self):
        every = all_tables(2)
        for first in every:
            for whole in every:
                self.assertEqual(further(first, whole), greatest_of([x for x in every if first * x == whole]))
                self.assertEqual(earlier(first, whole), greatest_of([x for x in every if x * first == whole]))

    def test_all_tables_of_size_one(self):
        full, empty = Table.full(1), Table.empty(1)
        self.assertEqual([further(full, full), further(full, empty), further(empty, empty)], [full, empty, full])
        self.assertEqual([earlier(full, full), earlier(full, empty), earlier(empty, empty)], [full, empty, full])
        self.assertIsNone(further(empty, full))
        self.assertIsNone(earlier(empty, full))

    def test_some_tables_of_size_three(self):
        every = all_tables(3)
        ones = some_tables(3, 5, 4)
        for first, other in zip(ones, some_tables(3, 5, 5)):
            for whole in [other, first * other, other * first]:
                self.assertEqual(further(first, whole), greatest_of([x for x in every if first * x == whole]))
                self.assertEqual(earlier(first, whole), greatest_of([x for x in every if x * first == whole]))

    def test_greater_tables(self):
        for first, whole in couples():
            pairs = greatest_behind(first, whole)
            found = behind(first.size, set(first.pairs()), pairs) == set(whole.pairs())
            expected = Table.of(first.size, sorted(pairs)) if found else None
            self.assertEqual(further(first, whole), expected)
            # What stands ahead is what stands behind, seen from the other end.
            turned = further(~first, ~whole)
            self.assertEqual(earlier(first, whole), None if turned is None else ~turned)

    def test_what_was_lost_before_is_found(self):
        for size in range(1, 7):
            for first, x in zip(some_tables(size, 10, 6), some_tables(size, 10, 7)):
                self.assertEqual(first * further(first, first * x), first * x)
                self.assertEqual(earlier(first, x * first) * first, x * first)
                self.assertTrue(x <= further(first, first * x))
                self.assertTrue(x <= earlier(first, x * first))
                self.assertIsNone(lost_pair(first, first * x))

    def test_the_two_sides_differ(self):
        first, whole = Table([[0], [0]]), Table([[0, 1], [0, 1]])
        self.assertEqual(str(further(first, whole)), "0>0,1 1>0,1")
        self.assertIsNone(earlier(first, whole))
        self.assertEqual(str(earlier(Table([[1], [0]]), Table([[0], []]))), "0>1 1>-")


class LostPairs(MurmurCase):
    def test_by_the_definition(self):
        for first, whole in couples():
            paper = lost_pair(first, whole)
            self.assertEqual(paper, pair_lost(first, whole))
            self.assertEqual(paper is None, further(first, whole) is not None)
            if paper is not None:
                self.assertIs(type(paper), tuple)
                self.assertEqual([type(part) for part in paper], [int, int, list])
                self.assertTrue(all(type(block) is tuple for block in paper[2]))

    def test_known_papers(self):
        self.assertEqual(lost_pair(Table([[0], [0]]), Table([[0], [1]])), (0, 0, [(0, 1)]))
        self.assertEqual(lost_pair(Table([[], [0]]), Table([[1], [1]])), (0, 1, []))
        first = Table([[0, 1, 2], [1], [2, 0]])
        self.assertEqual(lost_pair(first, Table([[0], [], []])), (0, 0, [(0, 2), (1, 1), (2, 2)]))
        self.assertEqual(lost_pair(first, Table([[0, 1], [1], [0, 2]])), (2, 2, [(0, 0), (2, 0)]))

    def test_the_paper_holds(self):
        for first, whole in couples():
            paper = lost_pair(first, whole)
            if paper is not None:
                self.assertIs(lost_holds(first, whole, paper), True)

    def test_the_returned_lists_are_new(self):
        first, whole = Table([[0], [0]]), Table([[0], [1]])
        lost_pair(first, whole)[2].append((5, 5))
        self.assertEqual(lost_pair(first, whole), (0, 0, [(0, 1)]))
        self.assertEqual([first.rows(), whole.rows()], [[[0], [0]], [[0], [1]]])


class LostHolds(MurmurCase):
    def check(self, first, whole, paper):
        copy = (paper[0], paper[1], list(paper[2]))
        expected = is_lost(first, whole, paper)
        self.assertIs(lost_holds(first, whole, paper), expected, (first, whole, paper))
        self.assertEqual(paper, copy)
        return expected

    def test_all_small_papers(self):
        numbers = [-2, -1, 0, 1, 2]
        blocks = list(itertools.product(numbers, repeat=2))
        lists = [list(chosen) for count in range(3) for chosen in itertools.product(blocks, repeat=count)]
        right = 0
        for first, whole in [("0>0 1>0", "0>0 1>1"), ("0>0,1 1>1", "0>0 1>-"), ("0>- 1>0", "0>1 1>1")]:
            one, other = [Table([[int(out) for out in part[2:] if out in "01"] for part in text.split()])
                          for text in (first, whole)]
            for told, out in [(0, 0), (0, 1), (1, 1), (-1, 0), (0, -1), (2, 0), (1, 2)]:
                right += sum(self.check(one, other, (told, out, found)) for found in lists)
        self.assertGreater(right, 2)

    def test_other_right_papers(self):
        first = Table([[0, 1], [0, 1], [1, 2], [1]])
        whole = Table([[0, 3], [3], [3], []])
        self.assertEqual(lost_pair(first, whole), (0, 0, [(0, 1), (1, 1)]))
        for blocks in [[(0, 1), (1, 1)], [(1, 2), (0, 1)], [(1, 3), (1, 3), (0, 1), (1, 1)], [(1, 2), (0, 1), (1, 3)]]:
            self.assertIs(lost_holds(first, whole, (0, 0, blocks)), True)
        # Another pair than the first one that is lost.
        self.assertIs(lost_holds(first, whole, (1, 3, [(1, 3)])), False)
        self.assertIs(lost_holds(first, Table([[0, 3], [0, 3], [3], []]), (1, 0, [(0, 2), (1, 2)])), False)
        self.assertIs(lost_holds(first, Table([[0, 3], [], [3], []]), (0, 3, [(1, 1), (0, 1)])), True)

    def test_papers_with_one_wrong_place(self):
        draws = Draws(4)
        seen = {False: 0, True: 0}
        for first, whole in couples():
            paper = lost_pair(first, whole)
            if paper is not None:
                for _ in range(3):
                    seen[self.check(first, whole, changed(paper, draws, first.size))] += 1
        self.assertGreater(seen[False], 300)
        self.assertGreater(seen[True], 20)

    def test_wrong_papers(self):
        first, whole = Table([[0, 1], [0], [1, 2]]), Table([[0], [], [1]])
        self.assertEqual(lost_pair(first, whole), (0, 0, [(0, 1), (1, 2)]))
        wrong = [
            (0, 0, []), (0, 0, [(0, 1)]), (0, 0, [(1, 2)]), (0, 0, [(0, 0), (1, 2)]), (0, 0, [(0, 1), (1, 0)]),
            (0, 1, [(0, 1), (1, 2)]), (1, 0, [(0, 1)]), (0, 0, [(0, 1), (1, 2), (2, 2)]), (0, 0, [(0, 2), (1, 2)]),
            (0, 0, [(0, 1), (1, 1)]), (0, 0, [(0, 1), (1, 2), (0, 0)]), (3, 0, []), (-3, 0, [(0, 1), (1, 2)]),
            (0, 3, []), (0, -3, [(0, 1), (1, 2)]), (FORTY, 0, []), (0, FORTY, []), (-FORTY, -FORTY, []),
            (0, 0, [(0, 1), (-2, 2)]), (0, 0, [(0, 1), (1, -1)]), (0, 0, [(0, 1), (1, 2), (3, 3)]),
            (0, 0, [(0, 1), (1, 2), (FORTY, -FORTY)]), (0, 0, [(0, 4), (1, 2)]), (-1, 1, [(1, 0), (2, 2)]),
        ]
        self.assertIs(lost_holds(first, whole, (0, 0, [(0, 1), (1, 2)])), True)
        for paper in wrong:
            self.assertFalse(self.check(first, whole, paper), paper)

    def test_no_paper_holds_if_there_is_a_table(self):
        lists = [list(chosen) for count in range(3) for chosen in itertools.product([(0, 0), (0, 1), (1, 0), (1, 1)],
                                                                                  repeat=count)]
        for first in all_tables(2):
            for whole in all_tables(2):
                if further(first, whole) is not None:
                    for told, out in whole.pairs():
                        self.assertFalse(any(lost_holds(first, whole, (told, out, blocks)) for blocks in lists))


def changed(paper, draws, size):
    """The paper with one part of it replaced, left out or doubled."""
    told, out, blocks = paper[0], paper[1], list(paper[2])
    number = draws.below(size + 2) - 1
    at = draws.below(len(blocks)) if blocks else None
    kind = draws.below(6)
    if kind == 0:
        return number, out, blocks
    if kind == 1:
        return told, number, blocks
    if kind == 2 or at is None:
        return told, out, blocks + [(number, draws.below(size + 2) - 1)]
    mid, other = blocks[at]
    blocks[at:at + 1] = [[], [(number, other)], [(mid, number)]][kind - 3]
    return told, out, blocks


class Sizes(MurmurCase):
    def test_sizes_that_differ(self):
        for one, other in itertools.permutations(range(1, 7), 2):
            first, second = Table.full(one), Table.identity(other)
            error = SizeMismatch(one, other)
            self.refused(error, lambda: further(first, second))
            self.refused(error, lambda: earlier(first, second))
            self.refused(error, lambda: lost_pair(first, second))
            for paper in [(0, 0, []), (9, -9, [(9, 9)]), (0, 0, [(0, 0)])]:
                self.refused(error, lambda: lost_holds(first, second, paper))


def tells_back(table, book, x):
    """Whether the table x tells each word of the book back for sure."""
    found = x.rows()
    return all(table[word] and all(found[mid] == [word] for mid in table[word]) for word in book)


class ToldBack(MurmurCase):
    def test_all_tables_of_size_two(self):
        every = all_tables(2)
        for table in every:
            for book in [[], [0], [1], [0, 1], [1, 0], [1, 1], [0, 1, 0]]:
                expected = greatest_of([x for x in every if tells_back(table, book, x)])
                self.assertEqual(told_back(table, book), expected)

    def test_some_tables_of_size_three(self):
        every = all_tables(3)
        for table in some_tables(3, 10, 8) + [Table([[0], [2], [1]]), Table([[0, 1], [2], []])]:
            for book in [[], [2], [0, 1], [2, 1], [2, 0, 1]]:
                expected = greatest_of([x for x in every if tells_back(table, book, x)])
                self.assertEqual(told_back(table, book), expected)

    def test_greater_tables(self):
        found = 0
        for size in range(4, 7):
            for table in some_tables(size, 30, 9) + [Table.identity(size)]:
                for book in [list(words) for count in range(4) for words in itertools.combinations(range(size), count)]:
                    self.assertEqual(told_back(table, book), self.expected(table, book))
                    found += bool(book) and told_back(table, book) is not None
        self.assertGreater(found, 50)

    def expected(self, table, book):
        """The greatest table by its pairs: all that begin with a word that comes out of no word of the book."""
        met = [mid for word in book for mid in table[word]]
        if len(met) != len(set(met)) or not all(table[word] for word in book):
            return None
        free = [(mid, word) for mid in range(table.size) if mid not in met for word in range(table.size)]
        return Table.of(table.size, free + [(mid, word) for word in book for mid in table[word]])

    def test_known_tables(self):
        table = Table([[1, 2], [0], [0, 3], [3]])
        self.assertEqual(told_back(table, [0, 1]).rows(), [[1], [0], [0], [0, 1, 2, 3]])
        self.assertEqual(told_back(table, [3, 0, 3, 3]).rows(), [[0, 1, 2, 3], [0], [0], [3]])
        self.assertEqual(told_back(table, [2]).rows(), [[2], [0, 1, 2, 3], [0, 1, 2, 3], [2]])
        self.assertIsNone(told_back(table, [1, 2]))
        self.assertIsNone(told_back(table, [3, 2, 0]))

    def test_the_book_comes_back(self):
        table = Table([[1, 2], [0], [0, 3], [3]])
        self.assertEqual(str(table * told_back(table, [0, 1])), "0>0 1>1 2>0,1,2,3 3>0,1,2,3")

    def test_the_empty_book(self):
        for size in range(1, 7):
            for table in some_tables(size, 5) + [Table.empty(size), Table.full(size)]:
                self.assertEqual(told_back(table, []), Table.full(size))

    def test_words_out_of_which_nothing_can_come(self):
        table = Table([[], [0], [1, 2]])
        self.assertIsNone(told_back(table, [0]))
        self.assertIsNone(told_back(table, [2, 0, 1]))
        self.assertEqual(told_back(table, [1, 2]).rows(), [[1], [2], [2]])
        self.assertIsNone(told_back(Table.empty(6), [5]))

    def test_duplicates_and_order_mean_nothing(self):
        table = Table([[1, 2], [0], [0, 3], [3]])
        for book in [[0, 3], [3, 0], [3, 3, 0], [0, 0, 3, 0]]:
            copy = list(book)
            self.assertEqual(told_back(table, book), told_back(table, [0, 3]))
            self.assertEqual(book, copy)
        self.assertIsNotNone(told_back(table, [2, 2, 2]))

    def test_total_tables(self):
        for size in range(2, 7):
            for table in some_tables(size, 20, 10):
                total = table | Table.identity(size)
                for one, other in itertools.combinations(range(size), 2):
                    melt = bool(set(total[one]) & set(total[other]))
                    self.assertEqual(told_back(total, [one, other]) is None, melt)

    def test_what_is_no_word(self):
        table = Table([[], [0], [0]])
        for book, word in [([3], 3), ([0, -1], -1), ([1, 2, FORTY, -1], FORTY), ([-FORTY, 3], -FORTY), ([1, 1, 5], 5)]:
            self.refused(UnknownWord(word), lambda: told_back(table, book))
            self.refused(UnknownWord(word), lambda: told_back(Table.identity(3), book))


if __name__ == "__main__":
    unittest.main()

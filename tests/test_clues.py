"""Points 2 and 23 to 25: clues."""

import itertools
import unittest

from murmurline.clues import Clues
from murmurline.errors import BadSize, SizeMismatch, UnknownClue
from murmurline.tables import Table
from tests.helper import FORTY, Draws, MurmurCase, all_tables, some_tables


def clues_of(size, kept):
    """An object with these clues, given as a dict from ascending numbers; other numbers are added and dropped."""
    clues = Clues(size)
    for number in range(max(kept, default=-1) + 1):
        first, last, whole = kept.get(number, (Table.full(size), Table.full(size), Table.empty(size)))
        assert clues.add(first, last, whole) == number
    for number in range(max(kept, default=-1) + 1):
        if number not in kept:
            clues.drop(number)
    return clues


def greatest_pairs(size, kept):
    """The pairs that alone go beyond no `whole`: together they are the greatest table that goes beyond none."""
    words = range(size)
    return [
        (a, b) for a in words for b in words
        if all(first * Table.of(size, [(a, b)]) * last <= whole for first, last, whole in kept.values())
    ]


def refutation(size, kept):
    """The paper of point 25, worked out word by word, or None."""
    greatest = Table.of(size, greatest_pairs(size, kept))
    for number, (first, last, whole) in sorted(kept.items()):
        missing = sorted(set(whole.pairs()) - set((first * greatest * last).pairs()))
        if missing:
            told, out = missing[0]
            mids = [(mid, after) for mid in range(size) for after in range(size)
                    if (told, mid) in first and (after, out) in last]
            return number, told, out, [both + blocking(size, kept, *both) for both in mids]
    return None


def blocking(size, kept, mid, after):
    words = range(size)
    return min(
        (number, told, out)
        for number, (first, last, whole) in kept.items() for told in words for out in words
        if (told, mid) in first and (after, out) in last and (told, out) not in whole
    )


def is_refutation(size, kept, paper):
    """Whether the paper has the properties of point 25."""
    number, told, out, blocks = paper
    if number not in kept or (told, out) not in set(kept[number][2].pairs()):
        return False
    first, last = set(kept[number][0].pairs()), set(kept[number][1].pairs())
    words = range(size)
    wanted = {(mid, after) for mid in words for after in words if (told, mid) in first and (after, out) in last}
    for mid, after, other, other_told, other_out in blocks:
        if (mid, after) not in wanted or other not in kept:
            return False
        one, two, three = [set(table.pairs()) for table in kept[other]]
        if (other_told, mid) not in one or (after, other_out) not in two or (other_told, other_out) in three:
            return False
    return wanted <= {record[:2] for record in blocks}


def drawn(size, seed):
    """Kept clues under some numbers: some that a common table solves, with or without others."""
    draws = Draws(size * 100 + seed)
    tables = some_tables(size, 15, seed)
    solution = tables[draws.below(15)]
    kept = {}
    for number in range(draws.below(5)):
        first, last, whole = [tables[draws.below(15)] for _ in range(3)]
        solved = draws.below(3)
        kept[number + draws.below(2) * 3 if number == 4 else number] = (
            first, last, first * solution * last if solved else whole
        )
    if draws.below(2) and len(kept) > 1:
        del kept[draws.below(len(kept))]
    return kept


def many_drawn():
    return [(size, drawn(size, seed)) for size in range(1, 7) for seed in range(40)]


SAME = Table.identity(2)


def unsolved():
    """Two clues that no table solves: it would have to be both of these tables."""
    return {0: (SAME, SAME, Table([[1], [1]])), 2: (SAME, SAME, Table([[0, 1], []]))}


def state(clues):
    """All that an object tells of its clues."""
    kept = [number in clues for number in range(-1, 8)]
    return clues.size, len(clues), clues.numbers(), kept, clues.greatest, clues.solve(), clues.refute()


class Keeping(MurmurCase):
    def test_without_clues(self):
        for size in range(1, 7):
            clues = Clues(size)
            self.assertEqual(state(clues), (size, 0, [], [False] * 9, Table.full(size), Table.full(size), None))
            self.assertIs(clues.fits(Table.empty(size)), True)

    def test_numbers(self):
        clues = Clues(2)
        self.assertEqual([clues.add(SAME, SAME, SAME) for _ in range(4)], [0, 1, 2, 3])
        self.assertEqual(clues.numbers(), [0, 1, 2, 3])
        self.assertEqual(len(clues), 4)
        self.assertEqual([number in clues for number in (-1, 0, 3, 4, FORTY, -FORTY)], [False, True, True] + [False] * 3)

    def test_numbers_are_never_used_again(self):
        clues = Clues(2)
        for _ in range(3):
            clues.add(SAME, SAME, SAME)
        self.assertIsNone(clues.drop(2))
        self.assertIsNone(clues.drop(0))
        self.assertEqual(clues.numbers(), [1])
        self.assertEqual(clues.add(SAME, SAME, SAME), 3)
        self.assertEqual(clues.numbers(), [1, 3])
        for number in [1, 3]:
            clues.drop(number)
        self.assertEqual([len(clues), clues.numbers(), 1 in clues], [0, [], False])
        self.assertEqual(clues.add(SAME, SAME, SAME), 4)
        self.assertEqual([number in clues for number in range(6)], [False] * 4 + [True, False])

    def test_an_object_without_clues_is_no_other_object(self):
        one, other = Clues(2), Clues(2)
        one.add(SAME, SAME, SAME)
        self.assertEqual([len(one), len(other)], [1, 0])
        self.assertEqual(other.add(SAME, SAME, SAME), 0)

    def test_the_returned_lists_are_new(self):
        clues = clues_of(2, unsolved())
        before = state(clues)
        clues.numbers().append(9)
        clues.refute()[3].clear()
        clues.greatest.rows()[0].append(0)
        self.assertEqual(state(clues), before)

    def test_greatest_is_read_only(self):
        with self.assertRaises(AttributeError):
            Clues(2).greatest = SAME

    def test_the_listed_names_are_defined_in_the_class_itself(self):
        for name in ["add", "drop", "numbers", "fits", "solve", "refute", "holds", "greatest"]:
            self.assertIn(name, vars(Clues))


class Refusing(MurmurCase):
    def test_bad_size(self):
        for size in [-FORTY, -1, 0, 7, FORTY]:
            self.refused(BadSize(size), lambda: Clues(size))

    def test_the_first_table_of_another_size(self):
        for size in range(1, 7):
            fine = Table.identity(size)
            for one, other in itertools.permutations([wrong for wrong in range(1, 7) if wrong != size], 2):
                clues = clues_of(size, {1: (fine, fine, fine)})
                before = state(clues)
                wrong, second = Table.full(one), Table.empty(other)
                error = SizeMismatch(size, one)
                for tables in [(wrong, fine, fine), (fine, wrong, fine), (fine, fine, wrong), (wrong, second, second),
                               (fine, wrong, second), (wrong, fine, second), (wrong, wrong, wrong)]:
                    self.refused(error, lambda: clues.add(*tables))
                    self.assertEqual(state(clues), before)
                self.refused(error, lambda: clues.fits(wrong))
                # The number of a clue that was refused is given to the next one.
                self.assertEqual(clues.add(fine, fine, fine), 2)

    def test_fits_refuses_sizes_also_without_clues(self):
        self.refused(SizeMismatch(3, 2), lambda: Clues(3).fits(SAME))

    def test_unknown_clues(self):
        clues = clues_of(2, unsolved())
        before = state(clues)
        for number in [-FORTY, -1, 1, 3, 4, FORTY]:
            self.refused(UnknownClue(number), lambda: clues.drop(number))
            self.assertEqual(state(clues), before)
        clues.drop(2)
        self.refused(UnknownClue(2), lambda: clues.drop(2))
        self.refused(UnknownClue(0), lambda: Clues(2).drop(0))
        self.assertEqual(clues.numbers(), [0])


class Solving(MurmurCase):
    def test_all_tables_of_size_two(self):
        every = all_tables(2)
        for seed in range(60):
            kept = drawn(2, seed)
            clues = clues_of(2, kept)
            fitting = [x for x in every if all(one * x * two <= whole for one, two, whole in kept.values())]
            solving = [x for x in every if all(one * x * two == whole for one, two, whole in kept.values())]
            self.assertIn(clues.greatest, fitting)
            self.assertTrue(all(x <= clues.greatest for x in fitting))
            self.assertEqual([x for x in every if clues.fits(x)], solving)
            if solving:
                self.assertIn(clues.solve(), solving)
                self.assertTrue(all(x <= clues.solve() for x in solving))
            else:
                self.assertIsNone(clues.solve())

    def test_all_tables_of_size_three(self):
        every = all_tables(3)
        for seed in range(8):
            kept = drawn(3, seed)
            clues = clues_of(3, kept)
            solving = [x for x in every if all(one * x * two == whole for one, two, whole in kept.values())]
            self.assertEqual(clues.solve() is None, not solving)
            self.assertTrue(all(x <= clues.solve() for x in solving))
            self.assertEqual([x for x in every if clues.fits(x)], solving)

    def test_greatest_pair_by_pair(self):
        for size, kept in many_drawn():
            clues = clues_of(size, kept)
            self.assertIsInstance(clues.greatest, Table)
            self.assertEqual(clues.greatest.pairs(), greatest_pairs(size, kept))
            solved = all(one * clues.greatest * two == whole for one, two, whole in kept.values())
            self.assertIs(clues.fits(clues.greatest), solved)
            self.assertEqual(clues.solve(), clues.greatest if solved else None)
            self.assertEqual(clues.refute() is None, solved)

    def test_greatest_is_up_to_date_after_each_call(self):
        for size in range(1, 7):
            draws = Draws(size)
            tables = some_tables(size, 20, 3)
            clues, kept = Clues(size), {}
            for _ in range(40):
                if kept and draws.below(3) == 0:
                    number = sorted(kept)[draws.below(len(kept))]
                    clues.drop(number)
                    del kept[number]
                else:
                    clue = tuple(tables[draws.below(20)] for _ in range(3))
                    kept[clues.add(*clue)] = clue
                self.assertEqual(clues.greatest.pairs(), greatest_pairs(size, kept))
                self.assertEqual(clues.numbers(), sorted(kept))
                self.assertEqual(clues.refute(), refutation(size, kept))

    def test_known_clues(self):
        clues = clues_of(2, unsolved())
        self.assertEqual([clues.greatest.rows(), clues.solve()], [[[1], []], None])
        clues.drop(0)
        self.assertEqual([clues.greatest.rows(), clues.solve()], [[[0, 1], []], Table([[0, 1], []])])
        self.assertIs(clues.fits(Table([[0, 1], []])), True)
        self.assertIs(clues.fits(Table([[0], []])), False)

    def test_a_clue_between_two_tables(self):
        clues = Clues(3)
        first, last = Table([[1], [1], [2]]), Table([[0], [2], [0]])
        clues.add(first, last, Table([[2], [2], [0]]))
        self.assertEqual(str(clues.greatest), "0>0,1,2 1>1 2>0,2")
        self.assertEqual(clues.solve(), clues.greatest)
        self.assertIs(clues.fits(Table([[], [1], [0]])), True)
        self.assertIs(clues.fits(Table([[2], [1], [2]])), True)
        self.assertIs(clues.fits(Table([[], [1], []])), False)


class Refuting(MurmurCase):
    def test_by_the_definition(self):
        found = []
        for size, kept in many_drawn():
            paper = clues_of(size, kept).refute()
            self.assertEqual(paper, refutation(size, kept))
            found.append(paper is None)
            if paper is not None:
                self.assertIs(type(paper), tuple)
                self.assertEqual([type(part) for part in paper], [int, int, int, list])
                self.assertTrue(all(type(record) is tuple for record in paper[3]))
        self.assertGreater(found.count(True), 20)
        self.assertGreater(found.count(False), 20)

    def test_known_papers(self):
        self.assertEqual(clues_of(2, unsolved()).refute(), (0, 1, 1, [(1, 1, 2, 1, 1)]))
        clues = Clues(2)
        clues.add(Table([[0], [0]]), SAME, Table([[0], [1]]))
        self.assertEqual(clues.refute(), (0, 0, 0, [(0, 0, 0, 1, 0)]))

    def test_nothing_leads_to_the_pair(self):
        clues = Clues(2)
        clues.add(Table([[], [0]]), SAME, Table([[1], []]))
        self.assertEqual(clues.refute(), (0, 0, 1, []))
        self.assertIs(clues.holds((0, 0, 1, [])), True)
        self.assertIs(clues.holds((0, 0, 1, [(0, 1, 0, 1, 1)])), False)

    def test_records_are_ordered_by_both_middle_words(self):
        full, half = Table.full(3), Table([[0], [], []])
        clues = clues_of(3, {1: (full, full, full), 3: (Table.identity(3), Table.identity(3), Table.empty(3))})
        self.assertEqual(clues.refute()[:3], (1, 0, 0))
        self.assertEqual(clues.refute()[3], [(a, b, 3, a, b) for a in range(3) for b in range(3)])
        clues.add(full, half, Table.empty(3))
        self.assertEqual(clues.refute()[3], [(a, b, 3, a, b) for a in range(3) for b in range(3)])

    def test_after_a_clue_was_dropped(self):
        clues = clues_of(2, unsolved())
        clues.drop(0)
        self.assertIsNone(clues.refute())
        self.assertIs(clues.holds((2, 0, 0, [(0, 0, 0, 0, 0)])), False)
        self.assertEqual(clues.add(SAME, SAME, Table([[1], [1]])), 3)
        self.assertEqual(clues.refute(), (2, 0, 0, [(0, 0, 3, 0, 0)]))


class Holding(MurmurCase):
    def check(self, size, kept, paper):
        expected = is_refutation(size, kept, paper)
        copy = paper[:3] + (list(paper[3]),)
        self.assertIs(clues_of(size, kept).holds(paper), expected, (kept, paper))
        self.assertEqual(paper, copy)
        return expected

    def test_what_refute_returns(self):
        for size, kept in many_drawn():
            clues = clues_of(size, kept)
            paper = clues.refute()
            if paper is not None:
                number, told, out, blocks = paper
                for right in [paper, (number, told, out, blocks[::-1]), (number, told, out, blocks + blocks)]:
                    self.assertIs(clues.holds(right), True)
                for at in range(len(blocks)):
                    self.assertIs(clues.holds((number, told, out, blocks[:at] + blocks[at + 1:])), False)

    def test_papers_with_one_changed_place(self):
        draws = Draws(8)
        seen = {False: 0, True: 0}
        for size, kept in many_drawn():
            paper = refutation(size, kept)
            for _ in range(12 if paper else 0):
                seen[self.check(size, kept, changed(paper, draws, size))] += 1
        self.assertGreater(seen[False], 300)
        self.assertGreater(seen[True], 20)

    def test_all_small_papers(self):
        kept = unsolved()
        numbers = [-1, 0, 1, 2, 3]
        words = [-1, 0, 1, 2]
        right = 0
        for number, told, out in itertools.product(numbers, words, words):
            for record in itertools.product([0, 1], [0, 1], numbers, [-1, 0, 1], [-1, 0, 1]):
                right += self.check(2, kept, (number, told, out, [record]))
        self.assertGreater(right, 0)

    def test_papers_that_are_not_the_smallest(self):
        kept = unsolved()
        # Other clues that give a reason as well.
        kept[4] = (Table([[1], [0]]), SAME, Table([[1], [1]]))
        kept[5] = kept[2]
        clues = clues_of(2, kept)
        self.assertEqual(clues.refute(), (0, 1, 1, [(1, 1, 2, 1, 1)]))
        for number in [2, 5]:
            for blocks in [[(0, 0, 0, 0, 0)], [(0, 0, 4, 1, 0)], [(0, 0, 4, 1, 0), (0, 0, 0, 0, 0)]]:
                self.assertIs(clues.holds((number, 0, 0, blocks)), True)
        self.assertIs(clues.holds((4, 1, 1, [(0, 1, 2, 0, 0)])), False)
        self.assertIs(clues.holds((0, 1, 1, [(1, 1, 2, 1, 1)])), True)
        self.assertIs(clues.holds((4, 0, 1, [(1, 1, 5, 1, 1)])), True)

    def test_wrong_papers(self):
        kept = unsolved()
        wrong = [
            (2, 0, 0, []), (2, 0, 0, [(0, 0, 1, 0, 0)]), (2, 0, 0, [(0, 0, 3, 0, 0)]), (2, 0, 0, [(0, 0, -1, 0, 0)]),
            (2, 0, 0, [(0, 0, FORTY, 0, 0)]), (2, 0, 0, [(0, 0, 2, 0, 0)]), (2, 0, 0, [(0, 0, 0, 1, 0)]),
            (2, 0, 0, [(0, 0, 0, 0, 1)]), (2, 0, 0, [(0, 1, 0, 0, 0)]), (2, 0, 0, [(1, 0, 0, 1, 0)]),
            (2, 0, 0, [(0, 0, 0, 0, 0), (1, 0, 0, 1, 0)]), (2, 0, 0, [(0, 0, 0, 0, 0), (0, 0, 0, 1, 1)]),
            (2, 0, 0, [(0, 0, 0, -2, 0)]), (2, 0, 0, [(0, 0, 0, 0, -2)]), (2, 0, 0, [(0, 0, 0, 2, 2)]),
            (2, 0, 0, [(0, 0, 0, 0, 0), (2, 2, 0, 2, 2)]), (2, 0, 0, [(-2, 0, 0, -2, 0)]), (2, 1, 0, [(1, 0, 0, 1, 0)]),
            (2, 0, 1, [(0, 0, 0, 0, 0)]), (2, -2, 0, [(0, 0, 0, 0, 0)]), (2, 0, 2, []), (2, 2, 0, []),
            (2, FORTY, 0, []), (2, 0, -FORTY, []), (0, 0, 0, [(0, 0, 0, 0, 0)]), (1, 0, 0, [(0, 0, 0, 0, 0)]),
            (3, 0, 0, [(0, 0, 0, 0, 0)]), (-1, 0, 0, [(0, 0, 0, 0, 0)]), (FORTY, 0, 0, [(0, 0, 0, 0, 0)]),
            (2, 0, 0, [(0, 0, 0, FORTY, 0)]), (2, 0, 0, [(0, 0, 0, 0, FORTY)]), (2, 0, 0, [(FORTY, 0, 0, 0, 0)]),
        ]
        self.assertTrue(self.check(2, kept, (2, 0, 0, [(0, 0, 0, 0, 0)])))
        for paper in wrong:
            self.assertFalse(self.check(2, kept, paper), paper)

    def test_without_clues(self):
        for paper in [(0, 0, 0, []), (-1, 0, 0, []), (0, 0, 0, [(0, 0, 0, 0, 0)]), (FORTY, FORTY, FORTY, [])]:
            self.assertIs(Clues(2).holds(paper), False)

    def test_no_paper_holds_if_some_table_solves_all_clues(self):
        draws = Draws(21)
        for size, kept in many_drawn():
            clues = clues_of(size, kept)
            if clues.solve() is not None:
                for number, (first, last, whole) in kept.items():
                    for told, out in whole.pairs():
                        ends = [word for word in range(size) if (word, out) in last]
                        blocks = [(mid, after, min(kept), draws.below(size), draws.below(size))
                                  for mid in first[told] for after in ends]
                        self.assertIs(clues.holds((number, told, out, blocks)), False)


def changed(paper, draws, size):
    """The paper with one number replaced by another one, or with one record more."""
    number, told, out, blocks = paper[0], paper[1], paper[2], list(paper[3])
    other = draws.below(size + 2) - 1
    kind = draws.below(10)
    if kind < 3:
        start = [number, told, out]
        start[kind] = other
        return (*start, blocks)
    if kind == 3 or not blocks:
        return number, told, out, blocks + [tuple(draws.below(size) for _ in range(5))]
    at = draws.below(len(blocks))
    record = list(blocks[at])
    record[kind - 5] = other
    more = [blocks[at]] if draws.below(2) else []
    return number, told, out, blocks[:at] + more + [tuple(record)] + blocks[at + 1:]


if __name__ == "__main__":
    unittest.main()

"""Points 2, 3, 36 and 37: what goes unnoticed if a word is said back."""

import itertools
import unittest

from murmurline.casts import Cast
from murmurline.echo import ranks, ring, undetected
from murmurline.errors import SizeMismatch
from murmurline.people import Person
from murmurline.tables import Table
from tests.helper import MurmurCase, all_strings, all_tables, cast_of, outs_along, some_said, some_tables

SWAPS, ZERO, SAME = [[1], [0]], [[0], [0]], [[0], [1]]
CIRCLE = [[1], [2], [3], [4], [5], [0]]
EIGHT = "abcdefgh"


def casts():
    """For each cast what its people say: in many of them no word ever comes back."""
    found = [(size, {}) for size in range(1, 7)]
    found += [(2, {"a": SWAPS}), (2, {"a": ZERO}), (2, {"a": SAME}), (2, {"a": ZERO, "k": [[1], [1]]})]
    found += [(3, {"a": [[0, 2], [1], [1, 2]]})]
    found += [(3, {"b": [[1], [1], [2]], "a": [[0], [2], [0]], "x": [[0], [0], [2]]})]
    for size in range(2, 5):
        for letters in ["a", "abc"]:
            found += [(size, some_said(size, letters, seed, dense)) for seed, dense in [(1, 1), (2, 2), (3, 1), (4, 1)]]
    for order in [[2, 0, 1], [3, 1, 0, 2], [4, 1, 2, 0, 3], [5, 3, 1, 0, 2, 4], [0, 1, 2, 3, 4, 5]]:
        for number, letters in enumerate(["a", "bc", "adz"]):
            found.append((len(order), upwards(order, some_said(len(order), letters, number + 1, 2))))
    found += [(5, {"d": [[1], [2], [3], [4], [0]]}), (6, {"a": CIRCLE, "j": [[0], [1], [2], [3], [4], [0]]})]
    return found


def upwards(order, said):
    """The people, but each of them says of other words only those that stand later in the order."""
    place = {word: at for at, word in enumerate(order)}
    return {
        letter: [sorted({word} | {out for out in outs if place[out] > place[word]} if len(outs) > 1
                        else {max(outs[0], word, key=place.get)}) for word, outs in enumerate(rows)]
        for letter, rows in said.items()
    }


def least_rows(size, said):
    """For each pair (told, out) the least row through which out can come out of told, of all rows that may matter."""
    found = {}
    for row in all_strings(said, size - 1):
        for told, outs in enumerate(outs_along(size, said, row)):
            for out in outs:
                found.setdefault((told, out), row)
    return found


def rings(size, rows):
    return [(a, b) for a, b in itertools.permutations(range(size), 2) if (a, b) in rows and (b, a) in rows]


class Undetected(MurmurCase):
    def check(self, there, back):
        expected = sorted(
            (sent, got) for sent in range(there.size) for got in there[sent] if sent != got and sent in back[got]
        )
        found = undetected(there, back)
        self.assertEqual(found, expected)
        self.assertTrue(type(found) is list and all(type(pair) is tuple for pair in found))
        return len(found)

    def test_all_tables_of_two_words(self):
        for there, back in itertools.product(all_tables(2), repeat=2):
            self.check(there, back)
        self.assertEqual(undetected(Table.full(1), Table.full(1)), [])

    def test_greater_tables(self):
        count = 0
        for size in range(3, 7):
            special = [Table.full(size), Table.empty(size), Table.identity(size)]
            for there in some_tables(size, 12, 1) + special:
                for back in some_tables(size, 12, 2) + special:
                    count += self.check(there, back)
        self.assertGreater(count, 500)

    def test_known_tables(self):
        there, back = Table([[1, 0], [2], [0, 2]]), Table([[2, 0], [0, 1], [0]])
        self.assertEqual(undetected(there, back), [(0, 1), (2, 0)])
        self.assertEqual(undetected(back, there), [(0, 2), (1, 0)])
        self.assertEqual(undetected(Table.identity(6), Table.full(6)), [])
        self.assertEqual(undetected(Table.full(2), Table.full(2)), [(0, 1), (1, 0)])
        undetected(there, back).clear()
        self.assertEqual(len(undetected(there, back)), 2)
        self.assertEqual([there.rows(), back.rows()], [[[0, 1], [2], [0, 2]], [[0, 2], [0, 1], [0]]])

    def test_sizes_that_differ(self):
        for one, other in itertools.permutations(range(1, 7), 2):
            for there, back in [(Table.full(one), Table.full(other)), (Table.empty(one), Table.identity(other))]:
                self.refused(SizeMismatch(one, other), lambda: undetected(there, back))


class Ranks(MurmurCase):
    def test_by_trying_all_ranks(self):
        seen = set()
        for size, said in casts():
            steps = {(told, out) for rows in said.values() for told in range(size) for out in rows[told] if told != out}
            fitting = [
                list(numbers) for numbers in itertools.product(range(size), repeat=size)
                if all(numbers[told] < numbers[out] for told, out in steps)
            ]
            # The smallest ones: each of the integers is the smallest one that the word can have at all.
            expected = [min(column) for column in zip(*fitting)] or None
            self.assertTrue(expected is None or expected in fitting)
            found = ranks(cast_of(size, said))
            self.assertEqual(found, expected, said)
            self.assertIs(type(found), type(None) if expected is None else list)
            seen.add((size, found and max(found)))
        self.assertGreater(len(seen), 14)

    def test_known_ranks(self):
        self.assertEqual(ranks(cast_of(3, {"a": [[0, 2], [1], [1, 2]]})), [0, 2, 1])
        self.assertEqual(ranks(cast_of(6, {"n": [[1], [2], [3], [4], [5], [5]]})), [0, 1, 2, 3, 4, 5])
        self.assertEqual(ranks(cast_of(6, {"n": [[0], [0], [1], [2], [3], [4]]})), [5, 4, 3, 2, 1, 0])
        self.assertEqual(ranks(cast_of(4, {"a": [[3], [1], [2], [3]], "b": [[0], [3], [2], [3]]})), [0, 0, 0, 1])
        self.assertEqual(ranks(cast_of(4, {"a": [[3], [1], [0], [3]], "b": [[0], [3], [2], [3]]})), [1, 0, 0, 2])
        # Each of the two people alone leads nowhere back, but both together do.
        self.assertIsNone(ranks(cast_of(2, {"a": ZERO, "b": [[1], [1]]})))
        self.assertEqual([ranks(cast_of(2, {"a": ZERO})), ranks(cast_of(2, {"b": [[1], [1]]}))], [[1, 0], [0, 1]])
        self.assertIsNone(ranks(cast_of(6, {"a": CIRCLE})))

    def test_empty_casts_and_one_word(self):
        for size in range(1, 7):
            self.assertEqual(ranks(Cast(size)), [0] * size)
            self.assertIsNone(ring(Cast(size)))
        self.assertEqual(ranks(cast_of(1, {"a": [[0]], "b": [[0]]})), [0])
        self.assertIsNone(ring(cast_of(1, {"a": [[0]], "b": [[0]]})))

    def test_the_list_is_new(self):
        cast = cast_of(2, {"a": ZERO})
        ranks(cast).append(7)
        self.assertEqual(ranks(cast), [1, 0])


class Rings(MurmurCase):
    def test_by_trying_the_rows(self):
        kinds = {False: 0, True: 0}
        for size, said in casts():
            rows = least_rows(size, said)
            pairs = rings(size, rows)
            expected = (*pairs[0], rows[pairs[0]], rows[pairs[0][::-1]]) if pairs else None
            found = ring(cast_of(size, said))
            self.assertEqual(found, expected, said)
            self.assertIs(type(found), tuple if pairs else type(None))
            self.assertEqual(ranks(cast_of(size, said)) is None, found is not None)
            kinds[found is None] += 1
        self.assertGreater(min(kinds.values()), 12)

    def test_two_rows_with_an_undetected_pair(self):
        for size, said in casts():
            if size <= 4:
                cast = cast_of(size, said)
                tables = [cast.through(row) for row in all_strings(said, 3)]
                sure = not any(undetected(there, back) for there in tables for back in tables)
                self.assertIs(ring(cast) is None, sure)
            found = ring(cast_of(size, said))
            if found is not None:
                sent, got, out_row, home_row = found
                cast = cast_of(size, said)
                self.assertIn((sent, got), undetected(cast.through(out_row), cast.through(home_row)))

    def test_known_rings(self):
        self.assertEqual(ring(cast_of(2, {"b": SWAPS, "a": SWAPS})), (0, 1, "a", "a"))
        self.assertEqual(ring(cast_of(2, {"a": ZERO, "b": [[1], [1]]})), (0, 1, "b", "a"))
        self.assertEqual(ring(cast_of(6, {"a": CIRCLE})), (0, 1, "a", "aaaaa"))
        self.assertEqual(ring(cast_of(4, {"x": [[0], [2], [3], [1]], "y": [[1], [1], [2], [3]]})), (1, 2, "x", "xx"))
        # 0 goes to 1 and to 2 through a, but only 2 goes on with b.
        cast = cast_of(4, {"a": [[1, 2], [1], [2], [0]], "b": [[0], [1], [3], [3]], "c": [[0], [3], [2], [3]]})
        self.assertEqual(ring(cast), (0, 1, "a", "ca"))

    def test_the_alphabetically_first_of_the_shortest_rows(self):
        # The way over 1 begins with the later letter, and it is found for 1 itself first.
        said = {"a": [[2], [1], [2], [0]], "b": [[1], [3], [3], [3]]}
        rows = least_rows(4, said)
        self.assertEqual(rows[(0, 3)], "ab")
        self.assertEqual(ring(cast_of(4, said)), (0, 1, "b", "ba"))
        said = {"a": [[1], [1], [4], [3], [4]], "b": [[2], [3], [2], [4], [4]], "c": [[0], [1], [2], [4], [0]]}
        self.assertEqual(least_rows(5, said)[(0, 4)], "ba")
        self.assertEqual(ring(cast_of(5, said))[:2], (0, 1))
        self.assertEqual(ring(cast_of(5, said))[3], least_rows(5, said)[(1, 0)])

    def test_six_words_and_eight_people(self):
        every = {letter: [[word] for word in range(6)] for letter in EIGHT}
        self.assertIsNone(self.at_once(lambda: ring(cast_of(6, every))))
        self.assertEqual(self.at_once(lambda: ranks(cast_of(6, every))), [0] * 6)
        # Each person takes one step only, so that a way around needs six different people.
        for at, letter in enumerate("gcaebf"):
            every[letter][at] = [(at + 1) % 6]
        self.assertEqual(self.at_once(lambda: ring(cast_of(6, every))), (0, 1, "g", "caebf"))
        self.assertIsNone(ranks(cast_of(6, every)))
        every["f"][5] = [5]
        self.assertIsNone(ring(cast_of(6, every)))
        self.assertEqual(ranks(cast_of(6, every)), [0, 1, 2, 3, 4, 5])
        for seed in range(1, 5):
            said = some_said(6, EIGHT, seed, 3)
            self.assertEqual(self.at_once(lambda: ring(cast_of(6, said)))[:2], (0, 1))
        full = {letter: [list(range(6))] * 6 for letter in EIGHT}
        self.assertEqual(self.at_once(lambda: ring(cast_of(6, full))), (0, 1, "a", "a"))

    def test_the_cast_counts_as_it_is_now(self):
        cast = cast_of(2, {"a": ZERO})
        self.assertIsNone(ring(cast))
        cast.put("b", Person([0, 1], [[1], [1]]))
        self.assertEqual([ring(cast), ranks(cast)], [(0, 1, "b", "a"), None])
        cast.leave("a")
        self.assertEqual([ring(cast), ranks(cast)], [None, [0, 1]])
        self.assertEqual([cast.letters(), cast["b"].rows()], [["b"], [[1], [1]]])


if __name__ == "__main__":
    unittest.main()

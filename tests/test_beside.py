"""Points 2, 3 and 38: rows that are told the same word side by side."""

import itertools
import unittest

from murmurline.beside import candidates, common_outs
from murmurline.casts import Cast
from murmurline.errors import BadCount, SameWord, UnknownPerson, UnknownWord
from tests.helper import FORTY, Draws, MurmurCase, cast_of, outs_along, some_said

SWAPS, ZERO = [[1], [0]], [[0], [0]]


def questions():
    """Casts and lists of rows."""
    told = [(size, some_said(size, letters, seed, 3)) for size in range(1, 7) for letters in ["a", "abc"]
            for seed in (1, 2)]
    told += [(2, {"a": SWAPS, "b": ZERO}), (5, {"a": [[1], [2], [0], [3], [4]], "c": [[0, 1], [1], [2], [3, 4], [4]]})]
    for number, (size, said) in enumerate(told):
        draws = Draws(number + 1)
        letters = sorted(said)
        for count in [0, 1, 1, 2, 2, 3, 5]:
            yield size, said, ["".join(letters[draws.below(len(letters))] for _ in range(draws.below(4)))
                               for _ in range(count)]


class Candidates(MurmurCase):
    def test_by_the_definition(self):
        lengths = set()
        for size, said, rows in questions():
            cast = cast_of(size, said)
            every = [outs_along(size, said, row) for row in rows]
            draws = Draws(size + len(rows))
            lists = [list(some) for some in itertools.product(range(size), repeat=len(rows))][:40]
            lists += [[draws.below(size) for _ in rows] for _ in range(10)]
            for outs in lists:
                copies = list(rows), list(outs)
                expected = [word for word in range(size) if all(out in some[word] for some, out in zip(every, outs))]
                found = candidates(cast, rows, outs)
                self.assertEqual(found, expected, (said, rows, outs))
                self.assertIs(type(found), list)
                self.assertEqual((rows, outs), copies)
                lengths.add(len(found))
        self.assertEqual(lengths, {0, 1, 2, 3, 4, 5, 6})

    def test_known_rows(self):
        cast = cast_of(3, {"a": [[0, 1], [1], [1, 2]], "b": [[0], [0], [2]]})
        self.assertEqual(candidates(cast, ["a"], [1]), [0, 1, 2])
        self.assertEqual(candidates(cast, ["a", "b"], [1, 0]), [0, 1])
        self.assertEqual(candidates(cast, ["b", "a"], [0, 1]), [0, 1])
        self.assertEqual(candidates(cast, ["a", "b"], [0, 1]), [])
        self.assertEqual(candidates(cast, ["ab", ""], [0, 1]), [1])
        # The same row twice may bring different words.
        self.assertEqual(candidates(cast, ["a", "a"], [0, 1]), [0])
        self.assertEqual(candidates(cast, ["", ""], [0, 1]), [])

    def test_without_rows(self):
        for size in range(1, 7):
            self.assertEqual(candidates(Cast(size), [], []), list(range(size)))
            self.assertEqual(candidates(cast_of(size, some_said(size, "ab", 1)), [], []), list(range(size)))
        self.assertEqual(candidates(Cast(4), ["", ""], [2, 2]), [2])

    def test_wrong_rows_then_wrong_lengths_then_wrong_words(self):
        cast = cast_of(2, {"a": SWAPS, "b": ZERO})
        for rows, letter, place in [(["x"], "x", 0), (["ab", "bq", "?"], "q", 1), (["", "", "aab*"], "*", 3),
                                    (["aA", "x"], "A", 1), (["abx", "x"], "x", 2)]:
            for outs in [[], [0] * len(rows), [5] * len(rows), [-1], [0] * 9]:
                self.refused(UnknownPerson(letter, place), lambda: candidates(cast, rows, outs))
        lengths = [([], [0]), (["a"], []), (["a"], [0, 1]), (["a", "b"], [7]), ([""], [-1, 5, 0]), ([], [2] * 50)]
        for rows, outs in lengths:
            self.refused(BadCount(len(outs)), lambda: candidates(cast, rows, outs))
        for outs, word in [([2, 0], 2), ([0, -1], -1), ([FORTY, -1], FORTY), ([1, -FORTY], -FORTY)]:
            self.refused(UnknownWord(word), lambda: candidates(cast, ["a", "b"], outs))
        self.refused(UnknownPerson("a", 0), lambda: candidates(Cast(2), ["a"], [5, 5]))
        self.refused(UnknownWord(1), lambda: candidates(Cast(1), [""], [1]))


class CommonOuts(MurmurCase):
    def test_by_the_definition(self):
        kinds = {False: 0, True: 0}
        for size, said, rows in questions():
            cast = cast_of(size, said)
            copy = list(rows)
            every = [outs_along(size, said, row) for row in rows]
            for first, second in itertools.permutations(range(size), 2):
                common = [some[first] & some[second] for some in every]
                expected = [min(some) for some in common] if all(common) else None
                found = common_outs(cast, rows, first, second)
                self.assertEqual(found, expected, (said, rows, first, second))
                self.assertIs(type(found), type(None) if expected is None else list)
                kinds[found is None] += 1
            self.assertEqual(rows, copy)
        self.assertGreater(min(kinds.values()), 200)

    def test_known_rows(self):
        cast = cast_of(3, {"a": [[0, 1], [1], [1, 2]], "b": [[0], [0], [2]]})
        self.assertEqual(common_outs(cast, ["a"], 0, 2), [1])
        self.assertEqual(common_outs(cast, ["a", "b"], 1, 0), [1, 0])
        self.assertEqual(common_outs(cast, ["b", "a", "ab"], 0, 1), [0, 1, 0])
        self.assertEqual(common_outs(cast, ["ab"], 0, 2), [0])
        self.assertIsNone(common_outs(cast, ["a", "b"], 0, 2))
        self.assertIsNone(common_outs(cast, ["", "a"], 0, 2))
        self.assertEqual(common_outs(cast_of(4, {"f": [[3, 1, 2]] * 4}), ["f", "ff"], 3, 0), [1, 1])

    def test_without_rows(self):
        for size in range(2, 7):
            for cast in [Cast(size), cast_of(size, some_said(size, "ab", 1))]:
                self.assertEqual(common_outs(cast, [], 0, size - 1), [])
                self.assertIsNone(common_outs(cast, [""], 0, size - 1))

    def test_wrong_rows_then_wrong_words_then_equal_words(self):
        cast = cast_of(2, {"a": SWAPS, "b": ZERO})
        for rows, letter, place in [(["x"], "x", 0), (["ab", "bq", "?"], "q", 1), (["", "", "aab*"], "*", 3)]:
            for first, second in [(0, 1), (0, 0), (2, 0), (0, -1)]:
                self.refused(UnknownPerson(letter, place), lambda: common_outs(cast, rows, first, second))
        for rows in [[], ["a"], ["b", ""]]:
            for wrong in [-FORTY, -1, 2, FORTY]:
                for first, second in [(wrong, 0), (wrong, wrong), (wrong, -7), (1, wrong)]:
                    self.refused(UnknownWord(wrong), lambda: common_outs(cast, rows, first, second))
            for word in [0, 1]:
                self.refused(SameWord(word), lambda: common_outs(cast, rows, word, word))
        self.refused(SameWord(0), lambda: common_outs(Cast(1), [], 0, 0))

    def test_what_is_returned_is_new(self):
        cast = cast_of(2, {"a": SWAPS, "b": ZERO})
        common_outs(cast, ["b"], 0, 1).append(3)
        candidates(cast, ["b"], [0]).clear()
        self.assertEqual([common_outs(cast, ["b"], 0, 1), candidates(cast, ["b"], [0])], [[0], [0, 1]])
        self.assertEqual([cast.letters(), cast["a"].rows(), cast["b"].rows()], [["a", "b"], SWAPS, ZERO])


if __name__ == "__main__":
    unittest.main()

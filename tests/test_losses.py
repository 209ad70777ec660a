"""Points 2, 3 and 35: lost people."""

import itertools
import math
import unittest

from murmurline.casts import Cast
from murmurline.errors import BadCount, SameWord, TooMany, UnknownPerson, UnknownWord
from murmurline.losses import lost_clash, most_lost, subrows
from tests.helper import FORTY, Draws, MurmurCase, all_strings, cast_of, melts_along, some_said

SAME, SWAPS, ZERO = [[0], [1]], [[1], [0]], [[0], [0]]
EIGHT = "abcdefgh"
CIRCLE = [[1], [2], [3], [4], [5], [0]]


def casts():
    """For each cast what its people say."""
    found = [(2, {"a": SWAPS, "b": ZERO}), (3, {"a": [[0], [2], [1]], "b": [[0], [0], [2]], "c": [[1], [0], [2]]})]
    for size in range(2, 5):
        for letters in ["a", "abc"]:
            found += [(size, some_said(size, letters, seed, dense)) for seed, dense in [(1, 1), (2, 2), (3, 1)]]
    # People who change places of words alone, and one who makes two of them one.
    found.append((4, {"a": [[1], [0], [2], [3]], "b": [[0], [1], [3], [2]], "k": [[0], [1], [2], [2]]}))
    found.append((5, {"a": [[1], [2], [0], [3], [4]], "b": [[0], [1], [2], [4], [3]], "j": [[0], [1], [2], [3], [3]]}))
    found.append((6, {"a": CIRCLE, "j": [[0], [1], [2], [3], [4], [0]], "s": [[1], [0], [2], [3], [4], [5]]}))
    return found


def questions(count=10, longest=6):
    """Casts and rows."""
    for number, (size, said) in enumerate(casts()):
        draws = Draws(number + 20)
        letters = sorted(said)
        for _ in range(count):
            row = "".join(letters[draws.below(len(letters))] for _ in range(draws.below(longest + 1)))
            yield size, said, row


def left_rows(row):
    """For each choice of places, the fewest first and then in the order of lists, the row without them."""
    for count in range(len(row) + 1):
        for places in itertools.combinations(range(len(row)), count):
            yield list(places), "".join(letter for at, letter in enumerate(row) if at not in places)


def first_melting(size, said, row, pairs):
    """The first choice of places without which one of the pairs of words melts, or None."""
    for places, rest in left_rows(row):
        if any(melts_along(size, said, rest, *pair) for pair in pairs):
            return places
    return None


class Subrows(MurmurCase):
    def test_by_all_choices_of_letters(self):
        for row in all_strings("abz", 5) + ["abcdef", "fedcba", "aabbccdd", "zyzyzyzy", "qqqqqq", "abacabad"]:
            for lost in range(-2, len(row) + 3):
                expected = []
                if 0 <= lost <= len(row):
                    kept = itertools.combinations(row, len(row) - lost)
                    expected = sorted({"".join(letters) for letters in kept})
                self.assertEqual(list(subrows(row, lost)), expected, (row, lost))

    def test_known_rows(self):
        self.assertEqual(list(subrows("abab", 2)), ["aa", "ab", "ba", "bb"])
        self.assertEqual(list(subrows("ba", 0)), ["ba"])
        self.assertEqual(list(subrows("ba", 1)), ["a", "b"])
        self.assertEqual(list(subrows("ba", 2)), [""])
        self.assertEqual(list(subrows("", 0)), [""])

    def test_below_nothing_and_beyond_everything(self):
        for row in ["", "a", "abab", "abc" * 20]:
            for lost in [-1, -2, -len(row) - 1, -FORTY, len(row) + 1, len(row) + 2, 2 * len(row) + 1, FORTY]:
                self.assertEqual(list(subrows(row, lost)), [], (row, lost))
            self.assertEqual(list(subrows(row, 0)), [row])
            self.assertEqual(list(subrows(row, len(row))), [""])

    def test_the_first_ones_of_a_long_row_come_at_once(self):
        row = "zyxwvutsrqponmlkjihgfedcba" * 4
        walk = subrows(row, 52)
        found = self.at_once(lambda: [next(walk) for _ in range(200)])
        self.assertEqual(found, sorted(set(found)))
        self.assertTrue(all(len(one) == 52 for one in found))
        self.assertEqual(found[0], self.least(row, 52))
        long = subrows("ab" * 500, 400)
        self.assertEqual(self.at_once(lambda: next(long)), self.least("ab" * 500, 600))

    def least(self, row, length):
        """The alphabetically first row of this length that is left: the first least letter that leaves enough."""
        found, start = "", 0
        while len(found) < length:
            end = len(row) - (length - len(found) - 1)
            letter = min(row[start:end])
            start = row.index(letter, start) + 1
            found += letter
        return found

    def test_many_letters_but_few_rows(self):
        # There are very many choices of letters, which all leave one of a few rows.
        self.assertEqual(self.at_once(lambda: list(subrows("a" * 60, 30))), ["a" * 30])
        found = self.at_once(lambda: list(subrows("a" * 30 + "b" * 30, 30)))
        self.assertEqual(found, ["a" * (30 - count) + "b" * count for count in range(31)])
        self.assertEqual(len(self.at_once(lambda: list(subrows("abcdefghijklmnop", 5)))), math.comb(16, 5))

    def test_it_is_a_generator(self):
        one, other = subrows("ab", 1), subrows("ab", 1)
        self.assertEqual([next(one), next(one), next(other), next(one, None)], ["a", "b", "a", None])
        self.assertIs(iter(other), other)


class LostClash(MurmurCase):
    def test_by_trying_all_losses(self):
        found = {}
        for size, said, row in questions():
            cast = cast_of(size, said)
            for first, second in itertools.combinations(range(size), 2):
                places = first_melting(size, said, row, [(first, second)])
                for most in {0, len(places or row) - 1, len(places or row), len(row) + 1} - {-1}:
                    expected = places if places is not None and len(places) <= most else None
                    clash = lost_clash(cast, row, most, first, second)
                    self.assertEqual(clash, expected, (said, row, most, first, second))
                    self.assertIs(type(clash), type(None) if expected is None else list)
                    self.assertEqual(lost_clash(cast, row, most, second, first), expected)
                    key = None if expected is None else len(expected)
                    found[key] = found.get(key, 0) + 1
        self.assertGreater(found[None], 200)
        self.assertGreater(found[0], 200)
        self.assertGreater(found[1], 30)
        self.assertGreater(found[2], 4)

    def test_known_rows(self):
        cast = cast_of(3, {"a": [[0], [2], [1]], "b": [[0], [0], [2]], "s": [[0], [1], [2]]})
        self.assertEqual(lost_clash(cast, "ab", 1, 0, 1), [0])
        self.assertEqual(lost_clash(cast, "ab", 1, 1, 0), [0])
        self.assertEqual(lost_clash(cast, "ab", 1, 0, 2), [])
        self.assertEqual(lost_clash(cast, "ab", 0, 2, 0), [])
        self.assertIsNone(lost_clash(cast, "ab", 0, 0, 1))
        self.assertIsNone(lost_clash(cast, "ab", 2, 1, 2))
        self.assertIsNone(lost_clash(cast, "sasa", 3, 0, 1))
        self.assertEqual(lost_clash(cast, "aaab", 3, 0, 1), [0])
        self.assertEqual(lost_clash(cast, "saab", 3, 0, 2), [1])
        self.assertEqual(lost_clash(cast, "saab", 1, 0, 1), [])
        self.assertIsNone(lost_clash(cast, "", 5, 0, 1))
        self.assertIsNone(lost_clash(Cast(2), "", 0, 1, 0))

    def test_the_places_of_the_fewest_letters(self):
        # The two words meet in 0 and 1 if the words were turned on the right number of times.
        turn = cast_of(4, {"t": [[1], [2], [3], [0]], "j": [[0], [0], [2], [3]]})
        self.assertIsNone(lost_clash(turn, "tttj", 3, 0, 2))
        self.assertEqual(lost_clash(turn, "tttj", 3, 0, 1), [0, 1, 2])
        self.assertIsNone(lost_clash(turn, "tttj", 2, 0, 1))
        self.assertEqual(lost_clash(turn, "tttj", 2, 3, 2), [0])
        self.assertEqual(lost_clash(turn, "tttj", 0, 1, 2), [])
        self.assertIsNone(lost_clash(turn, "ttttttj", 2, 1, 2))
        self.assertEqual(lost_clash(turn, "ttttttj", 3, 1, 2), [0, 1, 2])
        self.assertEqual(lost_clash(turn, "ttjtttt", 3, 0, 1), [0, 1])
        self.assertEqual(lost_clash(turn, "tjtttjt", 3, 0, 1), [0])

    def test_more_than_the_row_has(self):
        cast = cast_of(2, {"a": SWAPS, "b": ZERO})
        for most in [3, 4, 100, FORTY]:
            self.assertIsNone(lost_clash(cast, "aaa", most, 0, 1))
            self.assertEqual(lost_clash(cast, "aba", most, 0, 1), [])

    def test_eight_letters(self):
        same = {letter: [[word] for word in range(6)] for letter in EIGHT}
        cast = cast_of(6, same)
        self.assertIsNone(self.at_once(lambda: lost_clash(cast, EIGHT, 8, 0, 5)))
        self.assertEqual(self.at_once(lambda: most_lost(cast, EIGHT, [0, 1, 2, 3, 4, 5])), 8)
        said = {"t": CIRCLE, "j": [[0], [0], [2], [3], [4], [5]]}
        ring = cast_of(6, said)
        for first, second, most in [(0, 1, 5), (5, 0, 4), (2, 1, 6), (3, 4, 8)]:
            expected = first_melting(6, said, "ttttttjt", [(first, second)])
            expected = expected if expected is not None and len(expected) <= most else None
            self.assertEqual(self.at_once(lambda: lost_clash(ring, "ttttttjt", most, first, second)), expected)

    def test_the_list_is_new(self):
        cast = cast_of(2, {"a": SWAPS, "b": ZERO})
        lost_clash(cast, "b", 0, 0, 1).append(5)
        self.assertEqual(lost_clash(cast, "b", 0, 0, 1), [])


class MostLost(MurmurCase):
    def test_by_trying_all_losses(self):
        found = {}
        for size, said, row in questions():
            cast = cast_of(size, said)
            draws = Draws(len(row) + size)
            drawn = [draws.below(size) for _ in range(3)]
            for book in [[0, 1], list(range(size)), [size - 1, 0, 0], [1, 1], [], drawn]:
                copy = list(book)
                pairs = list(itertools.combinations(sorted(set(book)), 2))
                safe = [
                    most for most in range(-1, len(row) + 1)
                    if not any(melts_along(size, said, rest, *pair) for places, rest in left_rows(row)
                               if len(places) <= most for pair in pairs)
                ]
                self.assertEqual(most_lost(cast, row, book), max(safe), (said, row, book))
                self.assertEqual(book, copy)
                found[max(safe)] = found.get(max(safe), 0) + 1
        self.assertGreater(min(found[most] for most in (-1, 0, 1, 2, 3, 4, 5, 6)), 4)

    def test_known_rows(self):
        cast = cast_of(3, {"a": [[0], [2], [1]], "b": [[0], [0], [2]], "s": [[0], [1], [2]]})
        self.assertEqual(most_lost(cast, "ab", [0, 1]), 0)
        self.assertEqual(most_lost(cast, "ab", [2, 0]), -1)
        self.assertEqual(most_lost(cast, "ab", [1, 2]), 2)
        self.assertEqual(most_lost(cast, "ab", [2]), 2)
        self.assertEqual(most_lost(cast, "ab", [2, 2]), 2)
        self.assertEqual(most_lost(cast, "ab", []), 2)
        self.assertEqual(most_lost(cast, "saas", [0, 1, 2]), 4)
        self.assertEqual(most_lost(cast, "", [0, 1, 2]), 0)
        self.assertEqual(most_lost(Cast(6), "", [0, 1, 2]), 0)
        turn = cast_of(4, {"t": [[1], [2], [3], [0]], "j": [[0], [0], [2], [3]]})
        self.assertEqual([most_lost(turn, "tttj", [0, 1]), most_lost(turn, "tttj", [0, 2])], [2, 4])

    def test_the_same_as_for_each_two_words(self):
        for size, said, row in questions(5):
            cast = cast_of(size, said)
            clashes = [lost_clash(cast, row, 8, *pair) for pair in itertools.combinations(range(size), 2)]
            expected = min([len(row)] + [len(places) - 1 for places in clashes if places is not None])
            self.assertEqual(most_lost(cast, row, list(range(size))), expected)


class Wrong(MurmurCase):
    def setUp(self):
        self.cast = cast_of(2, {"a": SWAPS, "b": ZERO})

    def test_letters_of_nobody_come_first(self):
        wrong = [("x", "x", 0), ("ab?", "?", 2), ("a" * 20 + "x", "x", 20), ("*", "*", 0), ("bA", "A", 1)]
        for row, letter, place in wrong:
            error = UnknownPerson(letter, place)
            for most in [0, -1, 9, -FORTY]:
                for first, second in [(0, 1), (0, 0), (2, 2), (-1, 0)]:
                    self.refused(error, lambda: lost_clash(self.cast, row, most, first, second))
            for book in [[], [0, 1], [2], [-1, 7]]:
                self.refused(error, lambda: most_lost(self.cast, row, book))
        self.refused(UnknownPerson("a", 0), lambda: lost_clash(Cast(2), "a", 0, 0, 1))
        self.refused(UnknownPerson("a", 0), lambda: most_lost(Cast(2), "a", [0]))

    def test_then_numbers_below_nothing(self):
        for row in ["", "ab", "ab" * 8]:
            for most in [-1, -2, -FORTY]:
                for first, second in [(0, 1), (0, 0), (2, 2), (-1, 0)]:
                    self.refused(BadCount(most), lambda: lost_clash(self.cast, row, most, first, second))

    def test_then_words(self):
        for row in ["", "ab", "ab" * 8]:
            for most in [0, 3, FORTY]:
                for wrong in [-FORTY, -1, 2, FORTY]:
                    for first, second in [(wrong, 0), (wrong, wrong), (wrong, -7), (1, wrong)]:
                        self.refused(UnknownWord(wrong), lambda: lost_clash(self.cast, row, most, first, second))
                for word in [0, 1]:
                    self.refused(SameWord(word), lambda: lost_clash(self.cast, row, most, word, word))
            for book, word in [([2], 2), ([0, 1, -1, 2], -1), ([FORTY], FORTY), ([0, -FORTY, 9], -FORTY)]:
                self.refused(UnknownWord(word), lambda: most_lost(self.cast, row, book))

    def test_then_too_many_letters(self):
        for length in [9, 10, 100, 5000]:
            for most in [0, 9, FORTY]:
                self.refused(TooMany(8), lambda: lost_clash(self.cast, "a" * length, most, 0, 1))
            for book in [[], [0], [0, 1]]:
                self.refused(TooMany(8), lambda: most_lost(self.cast, "b" * length, book))
        self.assertEqual(lost_clash(self.cast, "b" * 8, 0, 0, 1), [])
        self.assertEqual(most_lost(self.cast, "a" * 8, [0, 1]), 8)


if __name__ == "__main__":
    unittest.main()

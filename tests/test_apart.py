"""Points 2, 19 and 20: words that melt, and words that stay apart."""

import itertools
import unittest

from murmurline.apart import apart_words, book_holds, find_book, find_melt, melt_holds
from murmurline.casts import Cast
from murmurline.errors import BadPattern, SameWord, UnknownWord
from murmurline.patterns import rows_of
from murmurline.people import Person
from murmurline.tables import Table
from tests.helper import (
    FORTY, Draws, MurmurCase, all_strings, cast_of, least_melt, left_after, open_ends, rows_of_pairs, some_patterns,
    some_said,
)

SWAPS, ZERO = [[1], [0]], [[0], [0]]
CHAIN = [[1], [2], [3], [4], [5], [5]]
CIRCLE = [[1], [2], [3], [4], [5], [0]]
JOIN = [[0], [1], [2], [3], [4], [0]]
EIGHT = "abcdwxyz"


def needed(said, pattern, triple):
    """What the closed list must contain because of a triple, or None if somebody makes the two words one."""
    place, low, high = triple
    if place == len(pattern):
        return set()
    sign = pattern[place]
    found = {(place + 1, low, high)} if sign == "*" else set()
    for letter in said if sign in "?*" else [sign]:
        ones, others = said[letter][low], said[letter][high]
        if set(ones) & set(others):
            return None
        after = place if sign == "*" else place + 1
        found |= {(after, *sorted([one, other])) for one in ones for other in others}
    return found


def closed_list(said, pattern, first, second):
    """The smallest closed list in ascending order, or None if there is none."""
    found = {(0, min(first, second), max(first, second))}
    while True:
        asked = [needed(said, pattern, triple) for triple in found]
        if None in asked:
            return None
        more = found.union(*asked)
        if more == found:
            return sorted(found)
        found = more


def is_closed(size, said, pattern, first, second, book):
    """Whether a list of triples has the properties of the closed list."""
    for place, low, high in book:
        if place not in range(len(pattern) + 1) or low not in range(size) or high not in range(size) or low >= high:
            return False
    asked = [needed(said, pattern, triple) for triple in book]
    if None in asked or (0, min(first, second), max(first, second)) not in book:
        return False
    return set().union(*asked) <= set(book)


def is_paper(size, said, pattern, first, second, paper):
    """Whether a row and two trails show that the words melt."""
    row, *trails = paper
    if not all(letter in said for letter in row):
        return False
    left = open_ends([pattern])
    for letter in row:
        left = left_after(left, letter)
    for word, trail in zip([first, second], trails):
        if len(trail) != len(row) + 1 or trail[0] != word or not all(told in range(size) for told in trail):
            return False
        if not all(trail[at + 1] in said[row[at]][trail[at]] for at in range(len(row))):
            return False
    return "" in left and trails[0][-1] == trails[1][-1]


def casts():
    """For casts of each size, what their people say."""
    found = [(2, {"a": SWAPS, "b": ZERO}), (2, {"a": SWAPS}), (3, {"a": [[1], [1, 2], [2]]})]
    for size in range(1, 5):
        for letters in ["a", "ab", "abc"]:
            found += [(size, some_said(size, letters, seed, dense)) for seed, dense in [(1, 1), (2, 1), (3, 2)]]
    # People who change places of words alone, so that many words stay apart, and one who makes two words one.
    found.append((4, {"a": [[1], [0], [2], [3]], "b": [[0], [1], [3], [2]]}))
    found.append((4, {"a": [[0, 1], [0, 1], [2], [3]], "b": [[2], [3], [0], [1]], "c": [[0], [1], [3], [2, 3]]}))
    found.append((5, {"a": [[1], [2], [0], [3], [4]], "b": [[0], [1], [2], [4], [3]], "j": [[0], [1], [2], [3], [3]]}))
    found.append((6, {"a": CIRCLE, "j": JOIN}))
    found.append((6, {"a": CIRCLE, "s": [[1], [0], [2], [3], [4], [5]]}))
    return found


def questions():
    """Casts, patterns and pairs of different words."""
    for number, (size, said) in enumerate(casts()):
        letters = "".join(said)
        patterns = all_strings(letters[:1] + "?*", 2) + some_patterns(letters, 12, number + 1)
        for pattern in patterns:
            for first, second in itertools.permutations(range(size), 2):
                yield size, said, pattern, first, second


class Finding(MurmurCase):
    def test_the_least_row_and_its_trails(self):
        for size, said, pattern, first, second in questions():
            row = least_melt(said, pattern, first, second)
            paper = find_melt(cast_of(size, said), pattern, first, second)
            if row is None:
                self.assertIsNone(paper, (said, pattern, first, second))
            else:
                self.assertIs(type(paper), tuple)
                self.assertEqual([type(part) for part in paper], [str, list, list])
                self.assertEqual(paper[0], row, (said, pattern, first, second))
                self.assertTrue(is_paper(size, said, pattern, first, second, paper))

    def test_the_smallest_closed_list(self):
        for size, said, pattern, first, second in questions():
            book = find_book(cast_of(size, said), pattern, first, second)
            self.assertEqual(book, closed_list(said, pattern, first, second), (said, pattern, first, second))
            if book is not None:
                self.assertIs(type(book), list)
                self.assertTrue(all(type(triple) is tuple for triple in book))

    def test_exactly_one_of_the_two_is_none(self):
        kinds = set()
        for size, said, pattern, first, second in questions():
            cast = cast_of(size, said)
            melt, book = find_melt(cast, pattern, first, second), find_book(cast, pattern, first, second)
            self.assertNotEqual(melt is None, book is None)
            kinds.add(melt is None)
        self.assertEqual(kinds, {False, True})

    def test_the_rows_ahead_of_the_least_one(self):
        # Another way to look for the least row: all rows that match, one after the other.
        for size, said in casts()[:12]:
            cast = cast_of(size, said)
            for pattern in ["*", "?*", "*?a*", "a?"]:
                for first, second in itertools.combinations(range(size), 2):
                    rows = [row for length in range(6) for row in rows_of(cast, pattern, length)]
                    melting = [row for row in rows if set(cast.through(row)[first]) & set(cast.through(row)[second])]
                    paper = find_melt(cast, pattern, first, second)
                    if melting:
                        self.assertEqual(paper[0], melting[0])
                    else:
                        self.assertTrue(paper is None or len(paper[0]) > 5)

    def test_alphabetically_first_of_the_shortest_rows(self):
        same, joins = [[0], [1], [2]], [[0], [0], [2]]
        cast = cast_of(3, {"a": same, "b": joins, "c": joins})
        self.assertEqual(find_melt(cast, "*", 0, 1), ("b", [0, 0], [1, 0]))
        self.assertEqual(find_melt(cast, "??", 1, 0), ("ab", [1, 1, 0], [0, 0, 0]))
        self.assertEqual(find_melt(cast, "*c*", 1, 0)[0], "c")
        self.assertEqual(find_melt(cast, "?c?", 0, 1)[0], "aca")
        self.assertEqual(find_melt(cast, "a*c?", 0, 1)[0], "aca")

    def test_a_row_that_is_longer_but_earlier_in_the_alphabet(self):
        cast = cast_of(2, {"a": SWAPS, "b": ZERO})
        self.assertEqual(find_melt(cast, "*", 0, 1), ("b", [0, 0], [1, 0]))
        self.assertEqual(find_melt(cast, "?*", 1, 0), ("b", [1, 0], [0, 0]))
        self.assertEqual(find_melt(cast, "*??", 0, 1)[0], "ab")

    def test_the_trails_may_cross_and_part_again(self):
        # Both words become 1, and then 0 or 2; the last person has to bring them together again.
        cast = cast_of(3, {"a": [[1], [0, 2], [1]], "b": [[0], [1], [2]]})
        row, first_trail, second_trail = find_melt(cast, "a?a", 0, 2)
        self.assertEqual(row, "aaa")
        self.assertEqual([first_trail[:2], second_trail[:2]], [[0, 1], [2, 1]])
        self.assertEqual(first_trail[-1], second_trail[-1])

    def test_no_row_is_empty_between_different_words(self):
        for size in range(2, 7):
            cast = cast_of(size, {"j": [[0]] * size})
            for first, second in itertools.permutations(range(size), 2):
                self.assertIsNone(find_melt(cast, "", first, second))
                self.assertEqual(find_book(cast, "", first, second), [(0, min(first, second), max(first, second))])
                self.assertEqual(find_melt(cast, "*", first, second), ("j", [first, 0], [second, 0]))

    def test_an_empty_cast(self):
        for pattern in all_strings("?*", 4) + ["*" * 12, "?" * 12]:
            self.assertIsNone(find_melt(Cast(3), pattern, 2, 0))
            stars = len(pattern) - len(pattern.lstrip("*"))
            self.assertEqual(find_book(Cast(3), pattern, 2, 0), [(place, 0, 2) for place in range(stars + 1)])

    def test_nothing_is_changed(self):
        said = {"a": SWAPS, "b": ZERO}
        cast = cast_of(2, said)
        paper, book = find_melt(cast, "*b", 0, 1), find_book(cast, "a*a", 0, 1) or find_book(cast, "aaa", 0, 1)
        copies = (paper[0], list(paper[1]), list(paper[2])), list(book)
        melt_holds(cast, "*b", 0, 1, paper)
        book_holds(cast, "aaa", 0, 1, book)
        self.assertEqual((paper, book), copies)
        paper[1].append(9)
        book.append(9)
        self.assertEqual(find_melt(cast, "*b", 0, 1), copies[0])
        self.assertEqual(find_book(cast, "aaa", 0, 1), copies[1])
        self.assertEqual([cast.letters(), cast["a"].rows(), cast["b"].rows()], [["a", "b"], SWAPS, ZERO])


class LongRows(MurmurCase):
    def test_a_chain(self):
        cast = cast_of(6, {"n": CHAIN})
        for first in range(5):
            row, *trails = self.at_once(lambda: find_melt(cast, "*", first, 5))
            self.assertEqual((row, trails), ("n" * (5 - first), [list(range(first, 6)), [5] * (6 - first)]))

    def test_a_circle_that_is_seldom_joined(self):
        said = {"a": CIRCLE, "j": JOIN}
        cast = cast_of(6, said)
        lengths = []
        for first, second in itertools.permutations(range(6), 2):
            for pattern in ["*", "*aaaaaa", "*a*j*a*j*a*j", "jaaaaaa*jaja"]:
                paper = self.at_once(lambda: find_melt(cast, pattern, first, second))
                self.assertEqual(paper[0], least_melt(said, pattern, first, second))
                self.assertTrue(is_paper(6, said, pattern, first, second, paper))
                lengths.append(len(paper[0]))
        self.assertGreater(max(lengths), 15)

    def test_pairs_one_behind_the_other(self):
        # Only one person does something to each pair of words, so that all pairs are gone through, one by one.
        pairs = [(0, 5), (1, 4), (2, 3), (0, 3), (1, 2), (0, 4), (3, 5), (2, 5)]
        said = {}
        for letter, (one, other), (a, b) in zip("abcdefgh", pairs, pairs[1:] + [(0, 0)]):
            rows = [[word] for word in range(6)]
            rows[one], rows[other] = [a], [b]
            said[letter] = rows
        cast = cast_of(6, said)
        for pattern in ["*", "*" * 12, "*?*?*?*?*?*?", "*a*b*c*d*e*f"]:
            for first, second in itertools.combinations(range(6), 2):
                paper = self.at_once(lambda: find_melt(cast, pattern, first, second))
                row = least_melt(said, pattern, first, second)
                self.assertEqual(row, paper and paper[0])
                self.assertEqual(row is None, self.at_once(lambda: find_book(cast, pattern, first, second)) is not None)

    def test_patterns_of_twelve_characters_and_many_people(self):
        full = {letter: [list(range(6))] * 6 for letter in EIGHT}
        mixed = some_said(6, EIGHT, 1, 3)
        same = {letter: [[word] for word in range(6)] for letter in EIGHT}
        for said in [full, mixed, same]:
            cast = cast_of(6, said)
            for pattern in ["*" * 12, "?" * 12, "*?" * 6, "******??????", "?***********", "a*b*c*d*w*x*"]:
                paper = self.at_once(lambda: find_melt(cast, pattern, 5, 0))
                book = self.at_once(lambda: find_book(cast, pattern, 5, 0))
                self.assertEqual(book, closed_list(said, pattern, 5, 0))
                if paper is not None:
                    self.assertTrue(is_paper(6, said, pattern, 5, 0, paper))
                self.assertNotEqual(paper is None, book is None)
                self.at_once(lambda: apart_words(cast, pattern))

    def test_a_book_of_twelve_characters(self):
        cast = cast_of(6, {"a": CIRCLE, "s": [[5], [4], [3], [2], [1], [0]]})
        book = self.at_once(lambda: find_book(cast, "?" * 12, 4, 1))
        self.assertEqual(book, closed_list({"a": CIRCLE, "s": [[5], [4], [3], [2], [1], [0]]}, "?" * 12, 4, 1))
        self.assertIs(self.at_once(lambda: book_holds(cast, "?" * 12, 4, 1, book)), True)


class MeltHolds(MurmurCase):
    def test_what_find_melt_returns(self):
        for size, said, pattern, first, second in questions():
            cast = cast_of(size, said)
            paper = find_melt(cast, pattern, first, second)
            if paper is not None:
                self.assertIs(melt_holds(cast, pattern, first, second, paper), True)
                row, one, other = paper
                swapped = (row, other, one)
                self.assertIs(melt_holds(cast, pattern, second, first, swapped), True)
                self.assertIs(melt_holds(cast, pattern, first, second, swapped), False)

    def test_all_small_papers(self):
        signs = {0: [[0, 1], [1]], 1: [[1], [0]]}
        trails = [list(chosen) for count in range(4) for chosen in itertools.product([-1, 0, 1, 2], repeat=count)]
        cast = cast_of(2, {"a": signs[0], "b": signs[1]})
        for pattern in ["*", "?", "a*", "?b"]:
            for row in ["", "a", "b", "ab", "ba", "bb", "q"]:
                self.each_paper(cast, {"a": signs[0], "b": signs[1]}, pattern, row, trails)

    def each_paper(self, cast, said, pattern, row, trails):
        for one in trails:
            for other in trails:
                expected = is_paper(2, said, pattern, 0, 1, (row, one, other))
                self.assertIs(melt_holds(cast, pattern, 0, 1, (row, one, other)), expected)

    def test_a_longer_row_and_other_trails(self):
        cast = cast_of(3, {"a": [[1], [0, 2], [1]], "b": [[0], [0], [2]]})
        for paper in [("a", [0, 1], [2, 1]), ("aa", [0, 1, 2], [2, 1, 2]), ("aa", [0, 1, 0], [2, 1, 0])]:
            self.assertIs(melt_holds(cast, "*", 0, 2, paper), True)
        self.assertIs(melt_holds(cast, "*", 0, 2, ("ab" * 50, [0] + [1, 0] * 50, [2] + [1, 0] * 50)), True)
        self.assertIs(melt_holds(cast, "*", 0, 2, ("aa", [0, 1, 0], [2, 1, 2])), False)

    def test_wrong_papers(self):
        cast = cast_of(3, {"a": [[1], [1, 2], [2]], "b": [[0], [1], [2]]})
        right = ("aa", [0, 1, 2], [2, 2, 2])
        self.assertIs(melt_holds(cast, "*a", 0, 2, right), True)
        wrong = [
            ("ab", [0, 1, 1], [2, 2, 2]), ("aab", [0, 1, 2, 2], [2, 2, 2, 2]), ("a", [0, 1, 2], [2, 2, 2]),
            ("", [0], [2]), ("", [], []), ("", [0, 1, 2], [2, 2, 2]), ("aa", [], []), ("aa", [0, 1, 2], []),
            ("aa", [0, 1], [2, 2, 2]), ("aa", [0, 1, 2, 2], [2, 2, 2]), ("aa", [0, 1, 2], [2, 2]),
            ("aa", [0, 1, 2], [2, 2, 2, 2]), ("aa", [1, 1, 2], [2, 2, 2]), ("aa", [0, 1, 2], [1, 2, 2]),
            ("aa", [0, 1, 1], [2, 2, 2]), ("aa", [0, 2, 2], [2, 2, 2]), ("aa", [0, 1, 2], [2, 1, 2]),
            ("aa", [0, -2, -1], [2, 2, -1]), ("aa", [0, FORTY, 2], [2, 2, 2]), ("aa", [0, 1, 3], [2, 2, 3]),
            ("aa", [0, 1, -1], [2, 2, 2]), ("aa", [-3, 1, 2], [2, 2, 2]), ("aa", [0, 1, 2], [-1, 2, 2]),
            ("qa", [0, 1, 2], [2, 2, 2]), ("aq", [0, 1, 2], [2, 2, 2]), ("*a", [0, 1, 2], [2, 2, 2]),
            ("?a", [0, 1, 2], [2, 2, 2]), ("Aa", [0, 1, 2], [2, 2, 2]), ("a a", [0, 1, 2], [2, 2, 2]),
        ]
        for paper in wrong:
            copy = (paper[0], list(paper[1]), list(paper[2]))
            self.assertIs(melt_holds(cast, "*a", 0, 2, paper), False, paper)
            self.assertEqual(paper, copy)

    def test_words_that_stay_apart_have_no_paper(self):
        cast = cast_of(2, {"a": SWAPS})
        for paper in [("a", [0, 1], [1, 0]), ("aa", [0, 1, 0], [1, 0, 1]), ("", [0], [1]), ("a", [0, 1], [1, 1])]:
            self.assertIs(melt_holds(cast, "*", 0, 1, paper), False)

    def test_an_empty_cast(self):
        for pattern in ["", "*", "?", "**"]:
            self.assertIs(melt_holds(Cast(2), pattern, 0, 1, ("", [0], [1])), False)
            self.assertIs(melt_holds(Cast(2), pattern, 0, 1, ("a", [0, 0], [1, 0])), False)


class BookHolds(MurmurCase):
    def check(self, size, said, pattern, first, second, book):
        expected = is_closed(size, said, pattern, first, second, book)
        self.assertIs(book_holds(cast_of(size, said), pattern, first, second, book), expected, (said, pattern, book))
        return expected

    def test_what_find_book_returns(self):
        for size, said, pattern, first, second in questions():
            book = find_book(cast_of(size, said), pattern, first, second)
            if book is not None:
                for paper in [book, book[::-1] + book[:2]]:
                    self.assertTrue(self.check(size, said, pattern, first, second, paper))
                for at in range(0, len(book), 1 + len(book) // 5):
                    self.assertFalse(self.check(size, said, pattern, first, second, book[:at] + book[at + 1:]))

    def test_every_set_of_triples(self):
        right = 0
        people = [{"a": [[1], [0], [2]]}, {"a": [[1], [0], [2]], "b": [[0], [2], [1]]}, {"a": [[0], [1], [1, 2]]}]
        for said in people + [{"a": [[0, 1], [0, 1], [2]]}]:
            for pattern in ["*", "?", "a", "a?", "*a", "**"]:
                places = range(len(pattern) + 1)
                triples = [(place, low, high) for place in places for low, high in [(0, 1), (0, 2), (1, 2)]]
                for chosen in itertools.product([False, True], repeat=len(triples)):
                    book = [triple for triple, taken in zip(triples, chosen) if taken]
                    right += self.check(3, said, pattern, 2, 0, book)
        self.assertGreater(right, 100)

    def test_more_triples_than_are_needed(self):
        # Also triples that are not reached have to be right.
        cast = cast_of(4, {"a": [[1], [0], [2], [2]]})
        self.assertEqual(find_book(cast, "a", 0, 1), [(0, 0, 1), (1, 0, 1)])
        for more in [[], [(1, 2, 3)], [(1, 0, 3), (1, 1, 2)], [(0, 1, 2), (1, 0, 2)]]:
            self.assertIs(book_holds(cast, "a", 0, 1, [(0, 0, 1), (1, 0, 1)] + more), True)
        for more in [[(0, 1, 2)], [(0, 2, 3)], [(0, 2, 3), (1, 2, 3)], [(0, 0, 2), (1, 0, 2)]]:
            self.assertIs(book_holds(cast, "a", 0, 1, more + [(0, 0, 1), (1, 0, 1)]), False)

    def test_triples_that_are_none(self):
        cast = cast_of(3, {"a": [[1], [0], [2]]})
        book = [(0, 0, 1), (1, 0, 1), (2, 0, 1)]
        self.assertIs(book_holds(cast, "a*", 0, 1, book), True)
        wrong = [(-1, 0, 1), (3, 0, 1), (FORTY, 0, 1), (-FORTY, 0, 1), (2, 1, 0), (2, 1, 1), (2, 0, 3), (2, -1, 0)]
        wrong += [(2, -3, -2), (2, 3, 4), (2, 0, FORTY), (2, -FORTY, FORTY), (2, 0, 0), (0, 1, 0), (-3, 0, 1)]
        for triple in wrong:
            for paper in [book + [triple], [triple] + book, [triple]]:
                copy = list(paper)
                self.assertIs(book_holds(cast, "a*", 0, 1, paper), False, triple)
                self.assertEqual(paper, copy)

    def test_an_empty_list(self):
        for pattern in ["", "*", "a"]:
            self.assertIs(book_holds(cast_of(2, {"a": SWAPS}), pattern, 0, 1, []), False)

    def test_the_same_word_said_for_both(self):
        cast = cast_of(2, {"a": SWAPS, "b": ZERO})
        for book in [[(0, 0, 1), (1, 0, 1)], [(0, 0, 1)], [(0, 0, 1), (1, 0, 0)], [(0, 0, 1), (1, 0, 0), (1, 0, 1)]]:
            for pattern in ["b", "?", "*"]:
                self.assertIs(book_holds(cast, pattern, 0, 1, book), False)
        self.assertIs(book_holds(cast, "a", 1, 0, [(1, 0, 1), (0, 0, 1)]), True)
        # Behind the last place nobody says anything.
        self.assertIs(book_holds(cast, "", 0, 1, [(0, 0, 1)]), True)

    def test_an_empty_cast(self):
        self.assertIs(book_holds(Cast(2), "?", 0, 1, [(0, 0, 1)]), True)
        self.assertIs(book_holds(Cast(2), "*", 0, 1, [(0, 0, 1)]), False)
        self.assertIs(book_holds(Cast(2), "*", 0, 1, [(1, 0, 1), (0, 0, 1)]), True)
        self.assertIs(book_holds(Cast(2), "*?*", 0, 1, [(1, 0, 1), (0, 0, 1)]), True)

    def test_drawn_lists(self):
        draws = Draws(3)
        for number, (size, said) in enumerate(casts()):
            for pattern in some_patterns("".join(said), 6, number, longest=3):
                for _ in range(20 if size > 1 else 0):
                    triples = [(draws.below(5) - 1, draws.below(size), draws.below(size)) for _ in range(draws.below(4))]
                    start = closed_list(said, pattern, 0, size - 1) or []
                    self.check(size, said, pattern, 0, size - 1, start + triples)


class ApartWords(MurmurCase):
    def test_by_the_closed_lists(self):
        for number, (size, said) in enumerate(casts()):
            cast = cast_of(size, said)
            for pattern in all_strings("?*" + min(said), 2) + some_patterns("".join(said), 12, number + 1):
                pairs = itertools.permutations(range(size), 2)
                expected = [pair for pair in pairs if closed_list(said, pattern, *pair) is not None]
                table = apart_words(cast, pattern)
                self.assertIsInstance(table, Table)
                self.assertEqual(table.rows(), rows_of_pairs(size, expected), (said, pattern))

    def test_by_trying_the_rows(self):
        for size, said in casts():
            cast = cast_of(size, said)
            for pattern in ["?", "a", "??", "a?"] if "a" in said else ["?", "??"]:
                tables = [cast.through(row) for row in rows_of(cast, pattern, len(pattern))]
                for a, b in itertools.product(range(size), repeat=2):
                    melt = any(set(table[a]) & set(table[b]) for table in tables)
                    self.assertIs((a, b) in apart_words(cast, pattern), a != b and not melt)

    def test_an_empty_cast_and_the_empty_pattern(self):
        for size in range(1, 7):
            different = [[other for other in range(size) if other != word] for word in range(size)]
            for pattern in ["", "*", "?", "*?*", "*" * 12]:
                self.assertEqual(apart_words(Cast(size), pattern).rows(), different)
            self.assertEqual(apart_words(cast_of(size, {"z": [[0]] * size}), "").rows(), different)
            self.assertEqual(apart_words(cast_of(size, {"z": [[0]] * size}), "*"), Table.empty(size))

    def test_bad_pattern(self):
        self.refused(BadPattern(1), lambda: apart_words(Cast(2), "*a"))
        self.refused(BadPattern(12), lambda: apart_words(Cast(2), "*" * 13))


class Wrong(MurmurCase):
    def each(self, error, cast, pattern, first, second):
        """All four functions that take two words must raise the error, whatever else is wrong."""
        self.refused(error, lambda: find_melt(cast, pattern, first, second))
        self.refused(error, lambda: find_book(cast, pattern, first, second))
        for paper in [("q", [], []), ("", [0], [1])]:
            self.refused(error, lambda: melt_holds(cast, pattern, first, second, paper))
        for book in [[], [(-1, 9, 9)], [(0, 0, 1)]]:
            self.refused(error, lambda: book_holds(cast, pattern, first, second, book))

    def test_patterns_come_first(self):
        cast = cast_of(2, {"a": SWAPS, "b": ZERO})
        for pattern, place in [("q", 0), ("a*?A", 3), ("*" * 13, 12), ("a" * 12 + "q", 12), ("abq" * 5, 2)]:
            for first, second in [(0, 1), (0, 0), (2, 2), (-1, 5), (1, FORTY)]:
                self.each(BadPattern(place), cast, pattern, first, second)
            self.refused(BadPattern(place), lambda: apart_words(cast, pattern))

    def test_then_the_first_word_the_second_word_and_equal_words(self):
        for size in range(1, 7):
            for cast in [Cast(size), cast_of(size, some_said(size, "ab", 1))]:
                for pattern in ["", "*", "?*"]:
                    for wrong in [-FORTY, -1, size, FORTY]:
                        self.each(UnknownWord(wrong), cast, pattern, wrong, 0)
                        self.each(UnknownWord(wrong), cast, pattern, 0, wrong)
                        self.each(UnknownWord(wrong), cast, pattern, wrong, wrong)
                        self.each(UnknownWord(wrong), cast, pattern, wrong, -2)
                    self.each(SameWord(0), cast, pattern, 0, 0)
                    self.each(SameWord(size - 1), cast, pattern, size - 1, size - 1)

    def test_letters_of_an_empty_cast(self):
        self.each(BadPattern(0), Cast(2), "a", 0, 1)
        self.each(BadPattern(1), Cast(2), "?a", 2, 2)

    def test_the_cast_counts_as_it_is_now(self):
        cast = cast_of(2, {"a": SWAPS, "b": ZERO})
        self.assertEqual(find_melt(cast, "*", 0, 1)[0], "b")
        cast.leave("b")
        self.assertIsNone(find_melt(cast, "*", 0, 1))
        self.each(BadPattern(0), cast, "b", 0, 1)
        cast.put("c", Person([1, 1], [[0], [0, 1]]))
        self.assertEqual(find_melt(cast, "*", 0, 1)[0], "c")
        self.assertEqual(len(apart_words(cast, "*a")), 0)


if __name__ == "__main__":
    unittest.main()

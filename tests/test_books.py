"""Points 2, 3, 18 and 28 to 31: books, and the people who must be informed of them."""

import functools
import itertools
import unittest

from murmurline.apart import apart_words
from murmurline.books import clashes, fewest_informed, fewest_places, first_clash, greatest_book, greatest_pairs
from murmurline.casts import Cast
from murmurline.errors import BadPattern, TooMany, UnknownPerson, UnknownWord
from murmurline.people import Person
from tests.helper import (
    FORTY, Draws, MurmurCase, all_strings, cast_of, least_melt, melts_along, some_patterns, some_said,
)

SWAPS, ZERO = [[1], [0]], [[0], [0]]
CIRCLE = [[1], [2], [3], [4], [5], [0]]
EIGHT = "abcdefgh"


def casts():
    """For casts of each size, what their people say."""
    found = [(1, {}), (3, {}), (6, {}), (2, {"a": SWAPS, "b": ZERO}), (2, {"a": SWAPS})]
    for size in range(1, 6):
        for letters in ["a", "abc"]:
            found += [(size, some_said(size, letters, seed, dense)) for seed, dense in [(1, 1), (2, 2)]]
    # People who keep most words apart.
    found.append((4, {"a": [[1], [0], [2], [3]], "b": [[0], [1], [3], [2]], "c": [[0], [1], [2], [2, 3]]}))
    found.append((4, {"a": [[0, 1], [0, 1], [2], [3]], "b": [[2], [3], [0], [1]]}))
    found.append((5, {"d": [[0, 1], [1, 2], [2, 3], [3, 4], [0, 4]], "e": [[1], [2], [3], [4], [0]]}))
    found.append((5, {"a": [[1], [2], [0], [3], [4]], "b": [[0], [1], [2], [4], [3]], "j": [[0], [1], [2], [3], [3]]}))
    found.append((6, {"a": CIRCLE, "j": [[0], [1], [2], [3], [4], [0]]}))
    found.append((6, {"m": [[0], [1], [0], [1], [4], [5]], "s": [[5], [4], [3], [2], [1], [0]]}))
    found.append((6, {"a": [[0, 1], [0, 1], [2, 3], [3], [4], [4, 5]]}))
    return found


@functools.cache
def questions():
    """Casts with patterns, and the pairs of different words that melt, each with the least row."""
    found = []
    for number, (size, said) in enumerate(casts()):
        letters = "".join(said)
        patterns = all_strings(letters[:1] + "?*", 1) + ["?*", "**"] + some_patterns(letters, 6, number, longest=5)
        for pattern in patterns:
            found.append((size, said, pattern, melting_rows(size, said, pattern)))
    return found


def melting_rows(size, said, pattern):
    rows = {pair: least_melt(said, pattern, *pair) for pair in itertools.permutations(range(size), 2)}
    return {pair: row for pair, row in rows.items() if row is not None}


def informed_said(said, informed):
    """What the people say if those of these letters pass on every word."""
    return {letter: [[word] for word in range(len(said[letter]))] if letter in informed else said[letter]
            for letter in said}


def choices(things):
    """All lists of the things, the shorter ones first, each length in the order of lists."""
    return [list(chosen) for count in range(len(things) + 1) for chosen in itertools.combinations(things, count)]


def is_safe(melting, book):
    return not any(pair in melting for pair in itertools.combinations(sorted(set(book)), 2))


def longest_first(lists):
    """The first one of the longest lists, in the order of lists."""
    most = max(len(found) for found in lists)
    return min(found for found in lists if len(found) == most)


class GreatestBook(MurmurCase):
    def test_by_trying_all_books(self):
        lengths = set()
        for size, said, pattern, melting in questions():
            expected = longest_first([book for book in choices(range(size)) if is_safe(melting, book)])
            found = greatest_book(cast_of(size, said), pattern)
            self.assertEqual(found, expected, (said, pattern))
            self.assertIs(type(found), list)
            lengths.add(len(found))
        self.assertEqual(lengths, {1, 2, 3, 4, 5, 6})

    def test_known_books(self):
        ring = cast_of(5, {"a": [[0, 1], [1, 2], [2, 3], [3, 4], [4, 0]]})
        self.assertEqual(greatest_book(ring, "a"), [0, 2])
        self.assertEqual(greatest_book(ring, ""), [0, 1, 2, 3, 4])
        self.assertEqual(greatest_book(ring, "aa"), [0])
        # The first word melts with everybody else, so a greater book begins with a later one.
        self.assertEqual(greatest_book(cast_of(4, {"a": [[0, 1, 2, 3], [1], [2], [3]]}), "?"), [1, 2, 3])
        self.assertEqual(greatest_book(cast_of(4, {"a": [[0], [0], [1], [1]]}), "*a"), [0])
        self.assertEqual(greatest_book(cast_of(4, {"a": [[0], [0], [1], [1]]}), "a"), [0, 2])
        self.assertEqual(greatest_book(cast_of(4, {"a": [[0], [1], [1], [0]]}), "a"), [0, 1])

    def test_an_empty_cast(self):
        for size in range(1, 7):
            for pattern in ["", "*", "?", "*?*"]:
                self.assertEqual(greatest_book(Cast(size), pattern), list(range(size)))

    def test_the_list_is_new(self):
        cast = cast_of(2, {"a": SWAPS})
        greatest_book(cast, "*").append(7)
        self.assertEqual(greatest_book(cast, "*"), [0, 1])


class Clashes(MurmurCase):
    def books(self, size, count=6):
        draws = Draws(size)
        drawn = [[draws.below(size) for _ in range(draws.below(size + 2))] for _ in range(count)]
        return [[], [0], [size - 1, 0], list(range(size)), [0, 0], list(range(size))[::-1] * 2] + drawn

    def test_the_first_clash(self):
        found = {False: 0, True: 0}
        for size, said, pattern, melting in questions():
            cast = cast_of(size, said)
            for book in self.books(size):
                copy = list(book)
                pairs = [pair for pair in itertools.combinations(sorted(set(book)), 2) if pair in melting]
                expected = (*pairs[0], melting[pairs[0]]) if pairs else None
                self.assertEqual(first_clash(cast, pattern, book), expected, (said, pattern, book))
                self.assertEqual(book, copy)
                found[expected is None] += 1
        self.assertGreater(min(found.values()), 200)

    def test_with_people_who_are_informed(self):
        changed = 0
        for size, said in casts()[5:]:
            cast = cast_of(size, said)
            for pattern in ["*", "?", "*?", min(said)]:
                for informed in [min(said), max(said), "".join(said), max(said) * 3, ""]:
                    melting = melting_rows(size, informed_said(said, informed), pattern)
                    pairs = [pair for pair in itertools.combinations(range(size), 2) if pair in melting]
                    expected = (*pairs[0], melting[pairs[0]]) if pairs else None
                    found = first_clash(cast, pattern, list(range(size)), informed=informed)
                    self.assertEqual(found, expected)
                    changed += found != first_clash(cast, pattern, list(range(size)))
            self.assertEqual(cast.letters(), sorted(said))
            self.assertEqual([cast[letter].rows() for letter in said], list(said.values()))
        self.assertGreater(changed, 20)

    def test_known_clashes(self):
        cast = cast_of(4, {"a": [[1], [2], [3], [3]], "z": [[0], [0], [2], [3]]})
        self.assertEqual(first_clash(cast, "*", [3, 2, 1, 0]), (0, 1, "z"))
        self.assertEqual(first_clash(cast, "*", [3, 1, 3]), (1, 3, "aa"))
        self.assertEqual(first_clash(cast, "*", [0, 1, 2], informed="z"), (0, 1, "aaa"))
        self.assertEqual(first_clash(cast, "a*", [0, 1, 2], informed="z"), (0, 1, "aaa"))
        self.assertEqual(first_clash(cast, "*", [0, 1], informed="a"), (0, 1, "z"))
        self.assertIsNone(first_clash(cast, "*", [0, 1, 2, 3], informed="za"))
        self.assertIsNone(first_clash(cast, "*", [0, 2], informed="a"))
        self.assertIsNone(first_clash(cast, "", [0, 1, 2, 3]))
        self.assertIsNone(first_clash(cast, "*", [2, 2]))

    def test_why_no_further_word_can_be_added(self):
        found = 0
        for size, said, pattern, melting in questions():
            cast = cast_of(size, said)
            for book in self.books(size, 3) + [greatest_book(cast, pattern)]:
                copy = list(book)
                expected = []
                for word in range(size):
                    members = [member for member in sorted(set(book)) if (word, member) in melting]
                    if word not in book and members:
                        expected.append((word, members[0], melting[(word, members[0])]))
                told = clashes(cast, pattern, book)
                self.assertEqual(told, expected, (said, pattern, book))
                self.assertTrue(type(told) is list and all(type(triple) is tuple for triple in told))
                self.assertEqual(book, copy)
                found += len(told)
            # The last one was a greatest book.
            self.assertEqual([word for word, _, _ in told], [word for word in range(size) if word not in book])
        self.assertGreater(found, 500)

    def test_known_words_beside_a_book(self):
        cast = cast_of(4, {"a": [[1], [2], [3], [3]], "z": [[0], [0], [2], [3]]})
        self.assertEqual(clashes(cast, "*", [3, 1]), [(0, 1, "z"), (2, 1, "aa")])
        self.assertEqual(clashes(cast, "?", [1, 3, 3]), [(0, 1, "z"), (2, 3, "a")])
        self.assertEqual(clashes(cast, "*", [0, 1, 2, 3]), [])
        self.assertEqual(clashes(cast, "*", []), [])
        self.assertEqual(clashes(cast, "", [0]), [])
        self.assertEqual(clashes(Cast(3), "*", [0]), [])

    def test_the_list_is_new(self):
        cast = cast_of(2, {"b": ZERO})
        clashes(cast, "*", [0]).clear()
        self.assertEqual(clashes(cast, "*", [0]), [(1, 0, "b")])


class FewestInformed(MurmurCase):
    def expected(self, size, said, pattern, book):
        for chosen in choices(sorted(said)):
            if is_safe(melting_rows(size, informed_said(said, chosen), pattern), book):
                return "".join(chosen)

    def test_by_trying_all_people(self):
        lengths = set()
        told = [(size, said) for size, said in casts() if size > 1]
        told += [(3, some_said(3, "abcde", seed, 1)) for seed in (1, 2, 3)]
        for number, (size, said) in enumerate(told):
            cast = cast_of(size, said)
            for pattern in ["", "*", "?", "*?"] + some_patterns("".join(said), 3, number, longest=4):
                for book in [[0, 1], [size - 1, 0, size - 1], list(range(size)), [], [1]]:
                    copy = list(book)
                    found = fewest_informed(cast, pattern, book)
                    self.assertEqual(found, self.expected(size, said, pattern, book), (said, pattern, book))
                    self.assertEqual(book, copy)
                    lengths.add(len(found))
            self.assertEqual([cast[letter].rows() for letter in said], list(said.values()))
        self.assertLessEqual({0, 1, 2, 3, 4, 5}, lengths)

    def test_known_people(self):
        same = [[0], [1], [2]]
        said = {"b": [[0], [0], [2]], "c": [[0], [1], [1]], "d": same, "a": [[0], [2], [1]]}
        cast = cast_of(3, said)
        self.assertEqual(fewest_informed(cast, "*", [0, 1]), "b")
        self.assertEqual(fewest_informed(cast, "*", [0, 1, 2]), "bc")
        self.assertEqual(fewest_informed(cast, "b", [1, 0]), "b")
        self.assertEqual(fewest_informed(cast, "ab", [0, 2]), "a")
        self.assertEqual(fewest_informed(cast, "d", [0, 1, 2]), "")
        self.assertEqual(fewest_informed(cast, "*", [2]), "")
        self.assertEqual(fewest_informed(Cast(6), "*?", [0, 1, 2, 3, 4, 5]), "")

    def test_informing_more_people_may_be_worse(self):
        # Once a is informed, b has to be informed as well.
        cast = cast_of(3, {"a": [[0], [2], [1]], "b": [[0], [0], [2]]})
        self.assertEqual(fewest_informed(cast, "ab", [0, 1]), "")
        self.assertIsNone(first_clash(cast, "ab", [0, 1]))
        self.assertEqual(first_clash(cast, "ab", [0, 1], informed="a"), (0, 1, "ab"))

    def test_eight_people(self):
        every = list(range(6))
        for said, pattern in [(some_said(6, EIGHT, 3, 1), "*" * 12), (some_said(6, EIGHT, 1, 2), "a*b*c*d*e*f*"),
                              ({letter: [[0]] * 6 for letter in EIGHT}, "*?" * 6)]:
            cast = cast_of(6, said)
            self.assertEqual(self.at_once(lambda: fewest_informed(cast, pattern, every)), EIGHT)
            self.assertEqual(fewest_informed(cast, "", every), "")
        # Each of six people joins two neighbours, and two others only move the words around.
        said = {letter: [[word] for word in every] for letter in EIGHT}
        for at, letter in enumerate("cdefgh"):
            said[letter][at] = [(at + 1) % 6]
        said["a"], said["b"] = CIRCLE, [[1], [0], [2], [3], [4], [5]]
        cast = cast_of(6, said)
        for pattern in ["*" * 12, "*a*b*c*d*e*f"]:
            self.assertEqual(self.at_once(lambda: fewest_informed(cast, pattern, every)), "cdefgh")
            self.assertEqual(self.at_once(lambda: fewest_informed(cast, pattern, [1, 0])), "acd")


class FewestPlaces(MurmurCase):
    def expected(self, size, said, row, book):
        for places in choices(range(len(row))):
            # Somebody stands there who passes on every word.
            new = dict(said, A=[[word] for word in range(size)])
            told = "".join("A" if at in places else letter for at, letter in enumerate(row))
            if not any(melts_along(size, new, told, *pair) for pair in itertools.combinations(sorted(set(book)), 2)):
                return places

    def test_by_trying_all_places(self):
        lengths = set()
        draws = Draws(8)
        for size, said in casts():
            cast = cast_of(size, said)
            for _ in range(12 if said else 1):
                row = "".join(sorted(said)[draws.below(len(said))] for _ in range(draws.below(7) if said else 0))
                for book in [list(range(size)), [0, size - 1, 0], [draws.below(size) for _ in range(3)], []]:
                    copy = list(book)
                    found = fewest_places(cast, row, book)
                    self.assertEqual(found, self.expected(size, said, row, book), (said, row, book))
                    self.assertIs(type(found), list)
                    self.assertEqual(book, copy)
                    lengths.add(len(found))
        self.assertLessEqual({0, 1, 2, 3, 4, 5, 6}, lengths)

    def test_known_places(self):
        cast = cast_of(3, {"a": [[0], [2], [1]], "b": [[0], [0], [2]]})
        self.assertEqual(fewest_places(cast, "", [0, 1, 2]), [])
        self.assertEqual(fewest_places(cast, "ab", [0, 1]), [])
        self.assertEqual(fewest_places(cast, "ab", [0, 2]), [0])
        self.assertEqual(fewest_places(cast, "bab", [0, 1]), [0])
        self.assertEqual(fewest_places(cast, "aba", [0, 1, 2]), [1])
        self.assertEqual(fewest_places(cast, "babb", [0, 1, 2]), [0, 2, 3])
        self.assertEqual(fewest_places(cast, "bbb", [1]), [])

    def test_the_list_is_new(self):
        cast = cast_of(2, {"a": SWAPS, "b": ZERO})
        fewest_places(cast, "b", [0, 1]).clear()
        fewest_places(cast, "", [0, 1]).append(0)
        self.assertEqual([fewest_places(cast, "b", [0, 1]), fewest_places(cast, "", [0, 1])], [[0], []])

    def test_eight_letters(self):
        zero = {letter: [[0]] * 6 for letter in EIGHT}
        cast = cast_of(6, zero)
        self.assertEqual(self.at_once(lambda: fewest_places(cast, EIGHT, list(range(6)))), list(range(8)))
        self.assertEqual(self.at_once(lambda: fewest_places(cast, "aaaaaaaa", [0, 5])), list(range(8)))
        self.assertEqual(fewest_places(cast, "aaaaaaaa", [5, 5]), [])

    def test_more_than_eight_letters(self):
        cast = cast_of(2, {"a": SWAPS, "b": ZERO})
        for length in [9, 10, 100, 5000]:
            for book in [[], [0], [0, 1]]:
                self.refused(TooMany(8), lambda: fewest_places(cast, "a" * length, book))

    def test_wrong_letters_then_wrong_words_then_too_many_letters(self):
        cast = cast_of(2, {"a": SWAPS, "b": ZERO})
        for row, letter, place in [("x", "x", 0), ("ab?", "?", 2), ("aaaaaaaaaax", "x", 10), ("*", "*", 0)]:
            for book in [[], [0], [2], [-1, 0]]:
                self.refused(UnknownPerson(letter, place), lambda: fewest_places(cast, row, book))
        for book, word in [([2], 2), ([0, 1, -1, 2], -1), ([FORTY], FORTY), ([0, -FORTY, 9], -FORTY)]:
            for row in ["", "ab", "ab" * 5]:
                self.refused(UnknownWord(word), lambda: fewest_places(cast, row, book))
        self.refused(UnknownPerson("a", 0), lambda: fewest_places(Cast(2), "a", []))
        self.refused(UnknownWord(1), lambda: fewest_places(Cast(1), "", [1]))


# Each of these people makes two pairs of words melt, and none of them touches a word of another pair.
MATCHINGS = [[(0, 1), (2, 3)], [(1, 2), (3, 4)], [(0, 2), (1, 4)], [(0, 3), (2, 4)], [(0, 4), (1, 3)]]
EDGES = sorted(pair for matching in MATCHINGS for pair in matching)


def cast_of_pairs(size, melting):
    """A cast in which, for the pattern `?`, exactly these pairs of words melt."""
    said = {}
    for letter, matching in zip("abcde", MATCHINGS):
        said[letter] = [[word] for word in range(size)]
        for one, other in matching:
            if (one, other) in melting:
                said[letter][other].append(one)
    return cast_of(size, said)


def greatest_book_of_pairs(size, melting):
    """The greatest book of pairs, by taking or leaving one entry after the other; sets of entries are numbers."""
    entries = list(itertools.product(range(size), repeat=2))

    def apart(one, other):
        return any(a != b and (min(a, b), max(a, b)) not in melting for a, b in zip(one, other))

    fits = [sum(1 << at for at, other in enumerate(entries) if apart(one, other)) for one in entries]

    @functools.cache
    def most(rest):
        if rest == 0:
            return 0
        at = rest.bit_length() - 1
        left = rest ^ 1 << at
        # An entry that stays apart from all others is always taken.
        return 1 + most(left) if left & fits[at] == left else max(1 + most(left & fits[at]), most(left))

    book, rest = [], (1 << len(entries)) - 1
    for at, entry in enumerate(entries):
        later = rest & ~((1 << at + 1) - 1)
        if rest >> at & 1 and 1 + most(later & fits[at]) == most(rest):
            book.append(entry)
            rest = later & fits[at]
        else:
            rest = later if rest >> at & 1 else rest
    return book


class GreatestPairs(MurmurCase):
    def test_by_trying_all_lists(self):
        lengths = set()
        for size, said, pattern, melting in questions():
            if size <= 2:
                entries = list(itertools.product(range(size), repeat=2))
                books = [book for book in choices(entries) if self.is_book(book, melting)]
                found = greatest_pairs(cast_of(size, said), pattern)
                self.assertEqual(found, longest_first(books))
                self.assertTrue(type(found) is list and all(type(entry) is tuple for entry in found))
                lengths.add(len(found))
        for melting in choices([(0, 1), (0, 2), (1, 2)]):
            entries = list(itertools.product(range(3), repeat=2))
            books = [book for book in choices(entries) if self.is_book(book, melting)]
            self.assertEqual(greatest_pairs(cast_of_pairs(3, melting), "?"), longest_first(books))
            lengths.add(len(longest_first(books)))
        self.assertEqual(lengths, {1, 4, 9})

    def is_book(self, book, melting):
        def apart(a, b):
            return a != b and (a, b) not in melting and (b, a) not in melting

        return all(any(apart(a, b) for a, b in zip(*both)) for both in itertools.combinations(book, 2))

    def test_four_words(self):
        pairs = [pair for pair in EDGES if max(pair) < 4]
        for melting in choices(pairs):
            found = greatest_pairs(cast_of_pairs(4, melting), "?")
            self.assertEqual(found, greatest_book_of_pairs(4, melting), melting)
            self.assertTrue(self.is_book(found, melting))

    def test_five_words(self):
        lengths = set()
        for number, melting in enumerate(choices(EDGES)):
            if number % 13 == 0 or len(melting) in (0, 1, 9, 10):
                cast = cast_of_pairs(5, melting)
                self.assertEqual([pair for pair in EDGES if pair not in apart_words(cast, "?").pairs()], melting)
                found = self.at_once(lambda: greatest_pairs(cast, "?"))
                self.assertEqual(found, greatest_book_of_pairs(5, melting), melting)
                lengths.add(len(found))
        self.assertLessEqual({1, 4, 9, 16, 25}, lengths)

    def test_all_rings_of_five_words(self):
        lengths = set()
        for order in itertools.permutations(range(1, 5)):
            ring = [0, *order]
            melting = [tuple(sorted([ring[at - 1], ring[at]])) for at in range(5)]
            found = self.at_once(lambda: greatest_pairs(cast_of_pairs(5, melting), "?"))
            self.assertEqual(found, greatest_book_of_pairs(5, melting))
            self.assertTrue(self.is_book(found, melting))
            lengths.add((len(found), len(greatest_book(cast_of_pairs(5, melting), "?"))))
        # More entries than there are pairs of words of the greatest book.
        self.assertEqual(lengths, {(5, 2)})

    def test_the_rest_of_the_questions(self):
        for size, said, pattern, melting in questions():
            if size in (3, 4, 5):
                found = greatest_pairs(cast_of(size, said), pattern)
                self.assertEqual(found, greatest_book_of_pairs(size, melting), (said, pattern))

    def test_an_empty_cast_and_the_empty_pattern(self):
        for size in range(1, 6):
            every = list(itertools.product(range(size), repeat=2))
            self.assertEqual(greatest_pairs(Cast(size), "*?"), every)
            self.assertEqual(greatest_pairs(cast_of(size, {"z": [[0]] * size}), ""), every)
            self.assertEqual(greatest_pairs(cast_of(size, {"z": [[0]] * size}), "*z"), [(0, 0)])

    def test_six_words_are_too_many(self):
        for cast in [Cast(6), cast_of(6, {"a": CIRCLE}), cast_of(6, {"z": [[0]] * 6})]:
            for pattern in ["", "*", "?"]:
                self.refused(TooMany(5), lambda: greatest_pairs(cast, pattern))
        self.refused(BadPattern(1), lambda: greatest_pairs(Cast(6), "*a"))
        self.refused(BadPattern(12), lambda: greatest_pairs(cast_of(6, {"a": CIRCLE}), "a" * 13))

    def test_the_list_is_new(self):
        cast = cast_of(2, {"b": ZERO})
        greatest_pairs(cast, "b").clear()
        self.assertEqual(greatest_pairs(cast, "b"), [(0, 0)])


class Wrong(MurmurCase):
    def each(self, error, cast, pattern, book):
        """Each function that takes a pattern and a book must raise the error, whatever else is wrong."""
        for informed in ["", "a", "q", "?"]:
            self.refused(error, lambda: first_clash(cast, pattern, book, informed=informed))
        self.refused(error, lambda: clashes(cast, pattern, book))
        self.refused(error, lambda: fewest_informed(cast, pattern, book))

    def test_patterns_come_first(self):
        cast = cast_of(2, {"a": SWAPS, "b": ZERO})
        for pattern, place in [("q", 0), ("a*?A", 3), ("*" * 13, 12), ("a" * 12 + "q", 12), ("abq" * 5, 2)]:
            for book in [[], [0, 1], [2], [-1, 9]]:
                self.each(BadPattern(place), cast, pattern, book)
            self.refused(BadPattern(place), lambda: greatest_book(cast, pattern))
            self.refused(BadPattern(place), lambda: greatest_pairs(cast, pattern))
        self.each(BadPattern(0), Cast(3), "a", [7])
        self.refused(BadPattern(0), lambda: greatest_book(Cast(3), "a"))

    def test_then_the_first_integer_that_is_no_word(self):
        for size in range(1, 7):
            for cast in [Cast(size), cast_of(size, some_said(size, "ab", 1))]:
                for pattern in ["", "*", "?*"]:
                    for book, word in [([size], size), ([0, -1, size], -1), ([FORTY, -1], FORTY), ([-FORTY], -FORTY)]:
                        self.each(UnknownWord(word), cast, pattern, book)

    def test_then_the_people_who_are_informed(self):
        cast = cast_of(2, {"a": SWAPS, "b": ZERO})
        wrong = [("q", "q", 0), ("abc", "c", 2), ("a?", "?", 1), ("aA", "A", 1), ("b\n", "\n", 1)]
        for informed, letter, place in wrong:
            for pattern in ["", "*", "ab?"]:
                for book in [[], [0], [0, 1]]:
                    error = UnknownPerson(letter, place)
                    self.refused(error, lambda: first_clash(cast, pattern, book, informed=informed))
        self.refused(UnknownPerson("a", 0), lambda: first_clash(Cast(2), "*", [0], informed="a"))

    def test_the_cast_counts_as_it_is_now(self):
        cast = cast_of(2, {"a": SWAPS, "b": ZERO})
        self.assertEqual([greatest_book(cast, "*"), fewest_informed(cast, "*", [1, 0])], [[0], "b"])
        cast.leave("b")
        self.assertEqual([greatest_book(cast, "*"), fewest_informed(cast, "*", [1, 0])], [[0, 1], ""])
        self.assertEqual(greatest_pairs(cast, "*"), [(0, 0), (0, 1), (1, 0), (1, 1)])
        cast.put("z", Person([0, 0], [[1], [0]]))
        self.assertEqual(first_clash(cast, "*", [1, 0]), (0, 1, "z"))
        self.assertEqual(clashes(cast, "*", [1]), [(0, 1, "z")])


if __name__ == "__main__":
    unittest.main()

"""Points 2 and 18: patterns."""

import functools
import inspect
import itertools
import re
import unittest

from murmurline.casts import Cast
from murmurline.errors import BadPattern, UnknownPerson, UnknownWord
from murmurline.patterns import came_from, matches, rows_of, spread
from murmurline.people import Person
from murmurline.tables import Table
from tests.helper import (
    FORTY, Draws, MurmurCase, all_strings, behind, cast_of, left_after, open_ends, pair_list, rows_of_pairs,
    some_patterns, some_said,
)

SWAPS, ZERO = [[1], [0]], [[0], [0]]
EIGHT = "abcdwxyz"
WRONG_SIGNS = ["q", "A", " ", "\u00e9", "0", "+", "[", "\n"]


def small():
    return cast_of(2, {"a": SWAPS, "b": ZERO})


def crowd():
    return cast_of(3, some_said(3, EIGHT, 1))


def by_expression(letters, pattern, row):
    """Whether the row matches, by a regular expression."""
    anyone = f"[{letters}]" if letters else "(?!)"
    signs = {"?": anyone, "*": f"(?:{anyone})*"}
    return re.fullmatch("".join(signs.get(sign, sign) for sign in pattern), row) is not None


def first_rows(letters, pattern, length, most):
    """The first rows of the length that match, and how many there are in all."""
    @functools.cache
    def many(left, length):
        if length == 0:
            return int("" in left)
        return sum(many(left_after(left, letter), length - 1) for letter in letters)

    def rows(beginning, left):
        if len(beginning) == length and "" in left:
            yield beginning
        for letter in letters:
            after = left_after(left, letter)
            if len(beginning) < length and many(after, length - len(beginning) - 1):
                yield from rows(beginning + letter, after)

    start = open_ends([pattern])
    return list(itertools.islice(rows("", start), most)), many(start, length)


class Matching(MurmurCase):
    def check(self, cast, pattern, row):
        expected = by_expression("".join(cast.letters()), pattern, row)
        self.assertIs(matches(cast, pattern, row), expected, (pattern, row))

    def test_all_short_patterns_and_rows(self):
        cast = small()
        for pattern in all_strings("ab?*", 4):
            for row in all_strings("ab", 5):
                self.check(cast, pattern, row)

    def test_drawn_patterns(self):
        cast = cast_of(1, {letter: [[0]] for letter in "abc"})
        for pattern in some_patterns("abc", 120, 5):
            for row in all_strings("abc", 4):
                self.check(cast, pattern, row)

    def test_the_empty_pattern(self):
        for cast in [Cast(1), Cast(6), small(), crowd()]:
            self.assertIs(matches(cast, "", ""), True)
        for row in ["a", "b", "ab", "bb"]:
            self.assertIs(matches(small(), "", row), False)

    def test_an_empty_cast(self):
        for size in range(1, 7):
            for pattern in all_strings("?*", 4):
                self.assertIs(matches(Cast(size), pattern, ""), "?" not in pattern)

    def test_twelve_stars(self):
        for row in ["", "a", "ba" * 200, "a" * 3001]:
            self.assertIs(self.at_once(lambda: matches(small(), "*" * 12, row)), True)
        self.assertIs(matches(Cast(2), "*" * 12, ""), True)

    def test_long_rows(self):
        told = [
            ("*a" * 6, "a" * 2000, True), ("*a" * 6, "a" * 1999 + "b", False), ("*a" * 6, "b" * 2000, False),
            ("a*" * 6, "ab" * 1000, True), ("a*" * 6, "ba" * 1000, False), ("*b*" * 4, "a" * 1999 + "b", False),
            ("*b*" * 4, "a" * 1996 + "bbbb", True), ("?" * 12, "a" * 2000, False), ("*?" * 6, "ab" * 1000, True),
            ("*?*a*?*b*a*b", "ab" * 1000, True), ("*?*a*?*b*a*b", "b" * 1998 + "ab", False),
        ]
        for pattern, row, expected in told:
            self.assertIs(self.at_once(lambda: matches(small(), pattern, row)), expected)

    def test_people_who_left_and_came(self):
        cast = small()
        self.assertIs(matches(cast, "*a?", "bab"), True)
        cast.put("c", cast_person(SWAPS))
        self.assertIs(matches(cast, "*a?", "cac"), True)
        cast.leave("a")
        self.refused(BadPattern(1), lambda: matches(cast, "*a?", "bcb"))

    def test_letters_of_nobody(self):
        for pattern in ["", "*", "a?", "b*a"]:
            for row, letter, place in [("q", "q", 0), ("abx?", "x", 2), ("ab*", "*", 2), ("?", "?", 0), ("aA", "A", 1)]:
                self.refused(UnknownPerson(letter, place), lambda: matches(small(), pattern, row))
        self.refused(UnknownPerson("a", 0), lambda: matches(Cast(2), "*", "ab"))
        self.refused(UnknownPerson("a", 0), lambda: matches(Cast(2), "", "ab"))


def cast_person(rows):
    return Person(list(range(len(rows))), rows)


class Rows(MurmurCase):
    def check(self, cast, pattern, length):
        letters = "".join(cast.letters())
        every = ["".join(chosen) for chosen in itertools.product(letters, repeat=length)]
        expected = [row for row in every if by_expression(letters, pattern, row)]
        self.assertEqual(list(rows_of(cast, pattern, length)), expected, pattern)

    def test_all_short_patterns(self):
        cast = small()
        for pattern in all_strings("ab?*", 4):
            for length in range(6):
                self.check(cast, pattern, length)

    def test_drawn_patterns(self):
        cast = cast_of(1, {letter: [[0]] for letter in "abc"})
        for pattern in some_patterns("abc", 60, 8):
            for length in range(6):
                self.check(cast, pattern, length)

    def test_each_length(self):
        for letters in ["a", "ab", "abc", EIGHT]:
            cast = cast_of(1, {letter: [[0]] for letter in letters})
            for pattern in some_patterns(letters, 25, 3) + ["", "*", "a", "?", "*" * 12, "?" * 12]:
                for length in range(41):
                    expected, many = first_rows(letters, pattern, length, 20)
                    found = list(itertools.islice(rows_of(cast, pattern, length), 20))
                    self.assertEqual(found, expected, (pattern, length))
                    if many <= 300:
                        self.assertEqual(len(list(rows_of(cast, pattern, length))), many, (pattern, length))

    def test_one_row_of_each_length(self):
        cast = cast_of(1, {"a": [[0]]})
        for length in range(41):
            self.assertEqual(list(rows_of(cast, "*", length)), ["a" * length])
            self.assertEqual(list(rows_of(cast, "", length)), [""] if length == 0 else [])

    def test_the_first_of_many_rows_at_once(self):
        def firsts(cast, pattern, count=3):
            return self.at_once(lambda: list(itertools.islice(rows_of(cast, pattern, 40), count)))

        self.assertEqual(firsts(small(), "*"), ["a" * 40, "a" * 39 + "b", "a" * 38 + "ba"])
        self.assertEqual(firsts(crowd(), "*" * 12, 2), ["a" * 40, "a" * 39 + "b"])
        self.assertEqual(firsts(crowd(), "z*z", 2), ["z" + "a" * 38 + "z", "z" + "a" * 37 + "bz"])

    def test_beginnings_are_given_up(self):
        def all_of_them(cast, pattern, length=40):
            return self.at_once(lambda: list(rows_of(cast, pattern, length)))

        # Without giving up, the search would lose itself behind the many beginnings with other letters.
        self.assertEqual(all_of_them(small(), "?" * 12), [])
        self.assertEqual(all_of_them(crowd(), "?" * 11 + "z"), [])
        self.assertEqual(all_of_them(crowd(), "zzzzzzzzzzz", 11), ["z" * 11])
        self.assertEqual(all_of_them(crowd(), "zzzzzzzzzzz?", 12), ["z" * 11 + letter for letter in EIGHT])
        one = self.at_once(lambda: next(rows_of(crowd(), "*zyzyzyzyzyz", 40)))
        self.assertEqual(one, "a" * 29 + "zyzyzyzyzyz")
        first, second = self.at_once(lambda: list(itertools.islice(rows_of(crowd(), "*z" * 6, 40), 2)))
        self.assertEqual([first, second], ["a" * 34 + "z" * 6, "a" * 33 + "bzzzzzz"])

    def test_an_empty_cast(self):
        for pattern in all_strings("?*", 4):
            self.assertEqual(list(rows_of(Cast(3), pattern, 0)), [] if "?" in pattern else [""])
            for length in [1, 2, 4, 40]:
                self.assertEqual(self.at_once(lambda: list(rows_of(Cast(3), pattern, length))), [])

    def test_twice_the_same(self):
        cast = small()
        for pattern in ["*a*", "?*?", "ab*", "*" * 12]:
            first, second = rows_of(cast, pattern, 5), rows_of(cast, pattern, 5)
            mixed = [row for pair in zip(first, second) for row in pair]
            self.assertEqual(mixed[::2], mixed[1::2])
            self.assertEqual(mixed[::2], list(rows_of(cast, pattern, 5)))
            self.assertEqual(len(set(mixed)) * 2, len(mixed))

    def test_it_is_a_generator(self):
        self.assertTrue(inspect.isgenerator(rows_of(small(), "*", 40)))

    def test_a_length_beyond_the_limit(self):
        self.assertEqual(next(rows_of(small(), "*b", 41)), "a" * 40 + "b")
        self.assertEqual(list(rows_of(small(), "*", -1)), [])

    def test_errors_are_raised_when_the_iteration_begins(self):
        for pattern, place in [("q", 0), ("a*?c", 3), ("*" * 13, 12), ("a" * 12 + "q", 12)]:
            for length in [0, 4, 40]:
                rows = rows_of(small(), pattern, length)
                self.refused(BadPattern(place), lambda: next(rows))
        self.refused(BadPattern(0), lambda: list(rows_of(Cast(2), "a", 1)))


def through_some_row(size, said, pattern, longest):
    """What comes out of which word through the matching rows up to a length."""
    found = set()
    letters = "".join(sorted(said))
    for row in all_strings(letters, longest):
        if by_expression(letters, pattern, row):
            found |= through(size, said, row)
    return found


def through(size, said, row):
    whole = {(word, word) for word in range(size)}
    for letter in row:
        whole = behind(size, whole, set(pair_list(said[letter])))
    return whole


def several_casts():
    """For some casts, what their people say, with a length beyond which rows of short patterns tell nothing new."""
    found = [(size, some_said(size, letters, seed)) for size in (1, 2, 3) for letters in ("a", "ab") for seed in (1, 2)]
    found.append((2, {"a": SWAPS, "b": ZERO}))
    # From 0 to 3, one word after the other.
    found.append((4, {"n": [[1], [2], [3], [3]]}))
    return found


class Spreading(MurmurCase):
    def test_by_trying_the_rows(self):
        for size, said in several_casts():
            cast = cast_of(size, said)
            for pattern in all_strings("".join(said) + "?*", 2):
                # Each star needs at most as many people as there are further words.
                pairs = through_some_row(size, said, pattern, 2 * size)
                table = spread(cast, pattern)
                self.assertIsInstance(table, Table)
                self.assertEqual(table.rows(), rows_of_pairs(size, pairs), pattern)

    def test_longer_patterns(self):
        for size, said in [(2, {"a": SWAPS, "b": ZERO}), (2, some_said(2, "ab", 7)), (3, some_said(3, "ab", 9))]:
            for pattern in ["*a*", "?b?", "a*b", "**a", "?*?", "ab*", "*?b"]:
                pairs = through_some_row(size, said, pattern, 7)
                self.assertEqual(spread(cast_of(size, said), pattern).rows(), rows_of_pairs(size, pairs))

    def test_known_tables(self):
        chain = cast_of(4, {"n": [[1], [2], [3], [3]]})
        self.assertEqual(str(spread(chain, "*")), "0>0,1,2,3 1>1,2,3 2>2,3 3>3")
        self.assertEqual(str(spread(chain, "?*")), "0>1,2,3 1>2,3 2>3 3>3")
        self.assertEqual(str(spread(chain, "nn")), "0>2 1>3 2>3 3>3")
        # Two different rows: a sends 0 to 1, and b sends 0 to 2.
        fork = cast_of(3, {"a": [[1], [1], [1]], "b": [[2], [2], [2]]})
        self.assertEqual(str(spread(fork, "?")), "0>1,2 1>1,2 2>1,2")
        self.assertEqual(str(spread(fork, "a")), "0>1 1>1 2>1")

    def test_a_long_way_around(self):
        circle = cast_of(6, {"n": [[1], [2], [3], [4], [5], [0]]})
        self.assertEqual(spread(circle, "*"), Table.full(6))
        self.assertEqual(spread(circle, "*n" * 6), Table.full(6))
        self.assertEqual(spread(circle, "?" * 12), Table.identity(6))
        chain = cast_of(6, {"n": [[1], [2], [3], [4], [5], [5]]})
        self.assertEqual(spread(chain, "*")[0], [0, 1, 2, 3, 4, 5])

    def test_the_empty_pattern(self):
        for size in range(1, 7):
            self.assertEqual(spread(Cast(size), ""), Table.identity(size))
            self.assertEqual(spread(cast_of(size, some_said(size, "ab", 1)), ""), Table.identity(size))

    def test_an_empty_cast(self):
        for size in range(1, 7):
            for pattern in all_strings("?*", 3) + ["*" * 12, "*" * 11 + "?"]:
                expected = Table.empty(size) if "?" in pattern else Table.identity(size)
                self.assertEqual(spread(Cast(size), pattern), expected)

    def test_bad_pattern(self):
        self.refused(BadPattern(1), lambda: spread(small(), "*q"))
        self.refused(BadPattern(12), lambda: spread(small(), "*" * 13))


class CameFrom(MurmurCase):
    def test_by_trying_the_rows(self):
        for size, said in several_casts():
            cast = cast_of(size, said)
            lists = [list(chosen) for count in range(4) for chosen in itertools.product(range(size), repeat=count)]
            for pattern in ["", "*", "?", "*?", min(said), "**", "??"]:
                pairs = through_some_row(size, said, pattern, 2 * size)
                for outs in lists[:60]:
                    expected = [word for word in range(size) if all((word, out) in pairs for out in outs)]
                    self.assertEqual(came_from(cast, pattern, outs), expected)

    def test_no_outs(self):
        for size in range(1, 7):
            for cast in [Cast(size), cast_of(size, some_said(size, "ab", 1))]:
                for pattern in ["", "*", "?"]:
                    self.assertEqual(came_from(cast, pattern, []), list(range(size)))

    def test_an_empty_cast(self):
        self.assertEqual(came_from(Cast(3), "*", [1]), [1])
        self.assertEqual(came_from(Cast(3), "*", [1, 2]), [])
        self.assertEqual(came_from(Cast(3), "?", [1]), [])

    def test_different_rows_for_different_words(self):
        fork = cast_of(3, {"a": [[1], [1], [0]], "b": [[2], [0], [0]]})
        self.assertEqual(came_from(fork, "?", [1, 2]), [0])
        self.assertEqual(came_from(fork, "a", [1, 2]), [])
        self.assertEqual(came_from(fork, "?", [2, 1, 2, 1]), [0])

    def test_the_list_is_left_alone_and_a_new_one_is_returned(self):
        outs = [1, 0, 1]
        cast = small()
        found = came_from(cast, "*", outs)
        self.assertEqual(outs, [1, 0, 1])
        found.append(7)
        self.assertEqual(came_from(cast, "*", outs), [0, 1])

    def test_what_is_no_word(self):
        cast = small()
        for outs, word in [([2], 2), ([0, -1, 2], -1), ([FORTY, -1], FORTY), ([1, 1, 0, -FORTY], -FORTY)]:
            for pattern in ["", "*", "?b"]:
                self.refused(UnknownWord(word), lambda: came_from(cast, pattern, outs))
        self.refused(UnknownWord(2), lambda: came_from(Cast(2), "?", [2]))


def wrong_patterns():
    """Invalid patterns for people under a and b, each with the place that is wrong."""
    told = [(start + sign, len(start)) for start in ("", "ab?*") for sign in WRONG_SIGNS]
    told += [("a" * 11 + "q", 11), ("*" * 12 + "a", 12), ("?" * 12 + "q", 12), ("b" * 40, 12), ("q" * 13, 0)]
    told += [("a" * 12 + "\u00e9q", 12), ("aqbQ" * 5, 1), ("a" * 11 + "q*", 11), ("ab" * 6 + "*", 12)]
    return told + [("a" * 13 + "q", 12), ("*" * 20 + "Q", 12)]


class WrongPatterns(MurmurCase):
    def test_the_first_wrong_place_ahead_of_every_other_error(self):
        cast = small()
        for pattern, place in wrong_patterns():
            error = BadPattern(place)
            for row in ["", "ab", "q", "aq"]:
                self.refused(error, lambda: matches(cast, pattern, row))
            self.refused(error, lambda: next(rows_of(cast, pattern, 3)))
            self.refused(error, lambda: spread(cast, pattern))
            for outs in [[], [0], [2], [-1, 5]]:
                self.refused(error, lambda: came_from(cast, pattern, outs))

    def test_twelve_signs_are_not_too_many(self):
        cast = small()
        for pattern in ["a" * 12, "*" * 12, "?" * 12, "ab?*" * 3]:
            row = pattern.replace("?", "b").replace("*", "")
            self.assertIs(matches(cast, pattern, row), "*" in pattern or len(row) == 12)
            spread(cast, pattern)
            self.assertEqual(came_from(cast, pattern, []), [0, 1])

    def test_letters_of_an_empty_cast(self):
        for function in [spread, lambda cast, pattern: matches(cast, pattern, ""), lambda *both: came_from(*both, [])]:
            self.refused(BadPattern(0), lambda: function(Cast(2), "a"))
            self.refused(BadPattern(2), lambda: function(Cast(2), "?*a?"))

    def test_the_cast_is_not_changed(self):
        cast = small()
        for pattern in ["*a?", "*", "??"]:
            matches(cast, pattern, "ab")
            list(rows_of(cast, pattern, 3))
            spread(cast, pattern)
            came_from(cast, pattern, [0])
            self.assertEqual([cast.letters(), cast["a"].rows(), cast["b"].rows()], [["a", "b"], SWAPS, ZERO])


class DrawnTogether(MurmurCase):
    def test_rows_that_are_yielded_are_rows_that_match(self):
        draws = Draws(11)
        cast = cast_of(3, some_said(3, "abc", 4))
        for pattern in some_patterns("abc", 150, 2, longest=8):
            length = draws.below(7)
            found = list(rows_of(cast, pattern, length))
            every = ["".join(chosen) for chosen in itertools.product("abc", repeat=length)]
            self.assertEqual(found, [row for row in every if matches(cast, pattern, row)])


if __name__ == "__main__":
    unittest.main()

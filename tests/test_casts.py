"""Points 15 to 17: casts of people."""

import unittest

from murmurline.casts import Cast
from murmurline.errors import BadLetter, BadSize, SizeMismatch, TooMany, UnknownPerson
from murmurline.people import Doubter, Knower, KnowingDoubter, Person
from murmurline.tables import Table, joined
from tests.helper import FORTY, MurmurCase

NO_LETTERS = ["", "ab", "A", "0", "*", "?", " ", "a ", "aa", "\u00e9", "\u00df", "`", "{", "\u0430"]


def person(rows):
    """The person whose table has these rows."""
    return Person(list(range(len(rows))), rows)


SWAPS = person([[1], [0]])
ZERO = person([[0], [0]])
DOUBTS = Doubter([0, 1], [[1], [1]])


def small():
    return Cast(2, a=SWAPS, b=ZERO, d=DOUBTS)


def crowd():
    """A cast of eight people."""
    return Cast(2, **{letter: SWAPS for letter in "zyxwdcba"})


def seen(cast):
    """All that a cast tells of itself."""
    return cast.size, len(cast), cast.letters(), [cast[letter].rows() for letter in cast.letters()]


class Meeting(MurmurCase):
    def test_an_empty_cast(self):
        for size in range(1, 7):
            self.assertEqual(seen(Cast(size)), (size, 0, [], []))
            self.assertNotIn("a", Cast(size))

    def test_people_by_keyword(self):
        cast = Cast(2, d=DOUBTS, b=ZERO, a=SWAPS)
        self.assertEqual(seen(cast), (2, 3, ["a", "b", "d"], [[[1], [0]], [[0], [0]], [[0, 1], [1]]]))

    def test_every_letter_and_every_kind(self):
        kinds = [SWAPS, DOUBTS, Knower([0, 1], [[1], [0]], [1]), KnowingDoubter([0, 1], [[1], [0]], [1])]
        for at, letter in enumerate("abcdefghijklmnopqrstuvwxyz"):
            cast = Cast(2)
            self.assertIsNone(cast.put(letter, kinds[at & 3]))
            self.assertEqual(cast.letters(), [letter])
            self.assertEqual(cast[letter], kinds[at & 3].table)
            self.assertIs(letter in cast, True)

    def test_put_and_replace(self):
        cast = small()
        cast.put("c", ZERO)
        self.assertEqual(cast.letters(), ["a", "b", "c", "d"])
        cast.put("a", ZERO)
        self.assertEqual(len(cast), 4)
        self.assertEqual(cast["a"].rows(), [[0], [0]])
        cast["c"] = SWAPS
        cast["z"] = DOUBTS
        self.assertEqual(cast.letters(), ["a", "b", "c", "d", "z"])
        self.assertEqual([cast["c"], cast["z"]], [SWAPS.table, DOUBTS.table])

    def test_leave(self):
        cast = small()
        self.assertIsNone(cast.leave("b"))
        self.assertEqual(cast.letters(), ["a", "d"])
        self.assertIs("b" in cast, False)
        self.assertEqual(len(cast), 2)
        self.refused(UnknownPerson("b", 0), lambda: cast.leave("b"))
        cast.put("b", SWAPS)
        self.assertEqual(cast["b"], SWAPS.table)

    def test_the_returned_lists_are_new(self):
        cast = small()
        cast.letters().append("q")
        cast["a"].rows()[0].append(0)
        self.assertEqual(seen(cast), seen(small()))

    def test_lists_of_a_person_are_copied(self):
        hears, says = [0, 1], [[1], [0]]
        cast = Cast(2, a=Person(hears, says))
        hears[0] = 1
        says[0].append(0)
        self.assertEqual(cast["a"].rows(), [[1], [0]])

    def test_a_cast_is_not_iterated_over(self):
        with self.assertRaisesRegex(TypeError, "not iterated"):
            list(small())


class Refusing(MurmurCase):
    def test_bad_size(self):
        for size in [-FORTY, -1, 0, 7, FORTY]:
            self.refused(BadSize(size), lambda: Cast(size))
            self.refused(BadSize(size), lambda: Cast(size, A=SWAPS, b=SWAPS))

    def test_keywords_are_put_in_ascending_order(self):
        three = person([[0], [1], [2]])
        self.refused(SizeMismatch(2, 3), lambda: Cast(2, bb=SWAPS, a=three))
        self.refused(BadLetter("ab"), lambda: Cast(2, b=three, ab=SWAPS))
        self.refused(BadLetter("A"), lambda: Cast(2, a=three, aa=SWAPS, A=SWAPS))
        self.refused(BadLetter("A"), lambda: Cast(2, a=SWAPS, _=SWAPS, A=SWAPS))

    def test_nine_keywords(self):
        self.refused(TooMany(8), lambda: Cast(2, **{letter: SWAPS for letter in "ihgfedcba"}))
        self.refused(TooMany(8), lambda: Cast(2, ii=SWAPS, **{letter: SWAPS for letter in "ihgfedcba"}))
        three = person([[0], [1], [2]])
        self.refused(SizeMismatch(2, 3), lambda: Cast(2, h=three, **{letter: SWAPS for letter in "igfedcba"}))

    def put_both_ways(self, cast, letter, someone, error):
        """Both ways to put somebody must raise the error and leave the cast as it was."""
        before = seen(cast)
        self.refused(error, lambda: cast.put(letter, someone))
        self.assertEqual(seen(cast), before)

        def assign():
            cast[letter] = someone

        self.refused(error, assign)
        self.assertEqual(seen(cast), before)

    def test_bad_letters(self):
        three = person([[0], [1], [2]])
        for cast in [Cast(2), small(), crowd()]:
            for letter in NO_LETTERS:
                self.put_both_ways(cast, letter, SWAPS, BadLetter(letter))
                self.put_both_ways(cast, letter, three, BadLetter(letter))

    def test_sizes_that_differ(self):
        for size in [1, 3, 4, 5, 6]:
            other = person([[word] for word in range(size)])
            for cast in [Cast(2), small(), crowd()]:
                self.put_both_ways(cast, "a", other, SizeMismatch(2, size))
                self.put_both_ways(cast, "q", other, SizeMismatch(2, size))

    def test_at_most_eight_people(self):
        cast = crowd()
        self.assertEqual(len(cast), 8)
        self.put_both_ways(cast, "q", ZERO, TooMany(8))
        cast.put("a", ZERO)
        cast["z"] = ZERO
        self.assertEqual(cast.letters(), list("abcdwxyz"))
        self.assertEqual([cast["a"], cast["b"], cast["z"]], [ZERO.table, SWAPS.table, ZERO.table])
        cast.leave("b")
        cast.put("q", ZERO)
        self.assertEqual(cast.letters(), list("acdqwxyz"))
        self.put_both_ways(cast, "b", ZERO, TooMany(8))

    def test_letters_of_nobody(self):
        for cast in [Cast(2), small(), crowd()]:
            before = seen(cast)
            for letter in NO_LETTERS + ["q", "e"]:
                self.refused(UnknownPerson(letter, 0), lambda: cast[letter])
                self.refused(UnknownPerson(letter, 0), lambda: cast.leave(letter))
                self.assertIs(letter in cast, False)
            self.assertEqual(seen(cast), before)

    def test_letters_next_to_each_other_are_not_one(self):
        cast = small()
        self.refused(UnknownPerson("ab", 0), lambda: cast["ab"])
        self.refused(UnknownPerson("ab", 0), lambda: cast.leave("ab"))
        self.assertIs("ab" in cast, False)
        self.assertIs("" in cast, False)


class Rows(MurmurCase):
    def test_no_letters(self):
        for size in range(1, 7):
            self.assertEqual(Cast(size).through(""), Table.identity(size))
        self.assertEqual(small().through(""), Table.identity(2))

    def test_one_and_many_letters(self):
        cast = small()
        a, b, d = cast["a"], cast["b"], cast["d"]
        self.assertEqual([cast.through("a"), cast.through("b"), cast.through("d")], [a, b, d])
        self.assertEqual(cast.through("ba").rows(), [[1], [1]])
        self.assertEqual(cast.through("ab").rows(), [[0], [0]])
        self.assertEqual(cast.through("dad").rows(), [[0, 1], [0, 1]])
        for row in ["dd", "abd", "ddab", "adadad", "a" * 41, "da" * 300]:
            self.assertEqual(cast.through(row), joined(*[cast[letter] for letter in row], size=2))
            self.assertIs(cast.through(row).total, True)

    def test_after_changes(self):
        cast = small()
        self.assertEqual(cast.through("ba").rows(), [[1], [1]])
        cast.put("b", SWAPS)
        self.assertEqual(cast.through("ba").rows(), [[0], [1]])
        cast["a"] = DOUBTS
        self.assertEqual(cast.through("ba").rows(), [[1], [0, 1]])
        cast.leave("b")
        self.assertEqual(cast.through("aa").rows(), [[0, 1], [1]])
        self.refused(UnknownPerson("b", 1), lambda: cast.through("aba"))

    def test_the_first_letter_of_nobody(self):
        cast = small()
        for row, letter, place in [("q", "q", 0), ("abq", "q", 2), ("aqxq", "q", 1), ("dbA?", "A", 2), ("a b", " ", 1)]:
            before = seen(cast)
            self.refused(UnknownPerson(letter, place), lambda: cast.through(row))
            self.refused(UnknownPerson(letter, place), lambda: cast.informed(row))
            self.assertEqual(seen(cast), before)
        self.refused(UnknownPerson("a", 0), lambda: Cast(2).through("ab"))
        self.refused(UnknownPerson("a", 0), lambda: Cast(2).informed("ab"))


class Informing(MurmurCase):
    def test_some_letters(self):
        same = Table.identity(2)
        for letters in ["", "a", "b", "d", "ab", "ba", "bb", "dad", "abd", "ddbbaa"]:
            cast = small()
            informed = cast.informed(letters)
            self.assertIsInstance(informed, Cast)
            self.assertEqual(informed.size, 2)
            self.assertEqual(informed.letters(), ["a", "b", "d"])
            self.assertEqual(len(informed), 3)
            for letter in "abd":
                self.assertEqual(informed[letter], same if letter in letters else cast[letter])
            self.assertEqual(seen(cast), seen(small()))

    def test_all_of_eight(self):
        informed = crowd().informed("abcdwxyz")
        self.assertEqual(informed.through("zyxwdcba"), Table.identity(2))
        self.refused(TooMany(8), lambda: informed.put("q", SWAPS))

    def test_an_empty_cast(self):
        for size in range(1, 7):
            self.assertEqual(seen(Cast(size).informed("")), (size, 0, [], []))

    def test_changes_of_one_leave_the_other_alone(self):
        for letters in ["", "b", "abd"]:
            cast = small()
            informed = cast.informed(letters)
            before = seen(informed)
            cast.put("a", ZERO)
            cast.put("c", ZERO)
            cast.leave("b")
            self.assertEqual(seen(informed), before)
            before = seen(cast)
            informed["d"] = ZERO
            informed.put("x", SWAPS)
            informed.leave("a")
            self.assertEqual(seen(cast), before)


if __name__ == "__main__":
    unittest.main()

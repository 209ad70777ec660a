"""Points 2, 3 and 39 to 43: a line that is built."""

import copy
import itertools
import unittest

from murmurline.casts import Cast
from murmurline.errors import (
    BadCount, BadPlace, Melted, MurmurError, NothingToRedo, NothingToUndo, Refused, TooLong, UnknownPerson, UnknownWord,
)
from murmurline.lines import LINE_LIMIT, Line, attempt
from murmurline.people import Person
from murmurline.tables import Table
from tests.helper import FORTY, Draws, MurmurCase, cast_of, outs_along, some_said, table_along

SAME, SWAPS, ZERO, ONE = [[0], [1]], [[1], [0]], [[0], [0]], [[1], [1]]
NOBODY = ["q", "", "ab", "?", "A", "*", "a ", "\u00e9", "aa"]
CIRCLE = [[1], [2], [3], [4], [5], [0]]


class Plain:
    """What a line has to do, written down without the program: all its rows in a list, the present one at a place."""

    def __init__(self, size, said, book, limit):
        self.size, self.said, self.book, self.limit = size, said, sorted(set(book)), limit
        self.rows, self.now = [""], 0

    @property
    def row(self):
        return self.rows[self.now]

    def refusal(self, row):
        outs = outs_along(self.size, self.said, row)
        melting = [pair for pair in itertools.combinations(self.book, 2) if outs[pair[0]] & outs[pair[1]]]
        return Melted(*melting[0]) if melting else None

    def change(self, row):
        error = self.refusal(row)
        if error is None:
            self.rows, self.now = self.rows[:self.now + 1] + [row], self.now + 1
        return error

    def letter_refused(self, row, letter):
        if letter not in self.said:
            return UnknownPerson(letter, 0)
        return TooLong(self.limit) if len(row) >= self.limit else None

    def add(self, letter):
        return self.letter_refused(self.row, letter) or self.change(self.row + letter)

    def insert(self, at, letter):
        if at < 0 or at > len(self.row):
            return BadPlace(at)
        return self.letter_refused(self.row, letter) or self.change(self.row[:at] + letter + self.row[at:])

    def take(self, at):
        if at not in range(len(self.row)):
            return BadPlace(at)
        return self.change(self.row[:at] + self.row[at + 1:])

    def swap(self, at):
        if at not in range(len(self.row)) or at + 1 not in range(len(self.row)):
            return BadPlace(at)
        letters = list(self.row)
        letters[at], letters[at + 1] = letters[at + 1], letters[at]
        return self.change("".join(letters))

    def undo(self):
        if self.now == 0:
            return NothingToUndo()
        self.now -= 1

    def redo(self):
        if self.now == len(self.rows) - 1:
            return NothingToRedo()
        self.now += 1

    def change_limit(self, limit):
        if limit not in range(61):
            return BadCount(limit)
        if len(self.row) > limit:
            return TooLong(limit)
        self.limit = limit

    def more(self, letters):
        row = self.row
        for letter in letters:
            error = self.letter_refused(row, letter) or self.refusal(row + letter)
            if error:
                return error
            row += letter
        return self.change(row) if letters else None

    def attempt(self, deeds):
        before = self.rows, self.now, self.limit
        for index, (name, *parts) in enumerate(deeds):
            error = getattr(self, "change_limit" if name == "limit" else name)(*parts)
            if error:
                self.rows, self.now, self.limit = before
                return index, error
        return None


def lines():
    """What people say, with a book and a limit."""
    told = [(2, {"a": SWAPS, "b": ZERO, "c": SAME}, [0, 1], 7), (2, {"a": SWAPS, "b": ZERO, "c": ONE}, [], 5)]
    told.append((3, {"a": [[0], [2], [1]], "b": [[0], [0], [2]], "c": [[1], [0], [2]]}, [2, 0, 2], 6))
    told.append((4, {"a": [[1], [0], [2], [3]], "b": [[0], [1], [3], [2]], "k": [[0], [1], [2], [2]]}, [3, 1, 0], 60))
    told.append((5, {"a": [[1], [2], [0], [3], [4]], "j": [[0], [1], [2], [3], [3]]}, [4, 0, 1], 4))
    told.append((6, {"a": CIRCLE, "j": [[0], [1], [2], [3], [4], [0]], "s": CIRCLE[::-1]}, [0, 5], 40))
    told.append((1, {"a": [[0]]}, [0, 0], 3))
    told.append((4, {}, [0, 3], 9))
    for size in range(2, 6):
        told.append((size, some_said(size, "abc", size, 1), [0, size - 1], 8))
        told.append((size, some_said(size, "xy", size, 2), [1], 8))
    return told


def drawn_deed(draws, said, length):
    letters = sorted(said) * 3 + NOBODY[:3]
    letter, at = letters[draws.below(len(letters))], draws.below(length + 3) - 1
    kinds = [("add", letter)] * 4 + [("insert", at, letter)] * 3 + [("take", at)] * 2 + [("swap", at)] * 2
    kinds += [("undo",)] * 3 + [("redo",)] * 2 + [("limit", [0, 3, 60, 61, -1, length, 9, 9, 9][draws.below(9)])]
    return kinds[draws.below(len(kinds))]


class LineCase(MurmurCase):
    def same(self, line, plain):
        """Everything that the line tells must be as the plain one has it."""
        self.assertEqual(line.row, plain.row)
        self.assertEqual([len(line), line.limit], [len(plain.row), plain.limit])
        self.assertEqual([line.past, line.future], [plain.now, len(plain.rows) - 1 - plain.now])
        self.assertEqual(line.table, table_along(plain.size, plain.said, plain.row))
        for word in range(plain.size):
            self.assertEqual(line.out(word), line.table.rows()[word])

    def carried_out(self, line, plain, name, *parts):
        """Both must do the same, or be refused for the same reason; returns whether they were refused."""
        work = getattr(line, name)
        error = getattr(plain, name)(*parts)
        if error is None:
            self.assertIsNone(work(*parts))
        else:
            self.refused(error, lambda: work(*parts))
        self.same(line, plain)
        return type(error)

    def state(self, line):
        """All that can be seen of a line, also what undo and redo lead to."""
        other, seen = line.twin(), []
        while other.past:
            other.undo()
        seen.append(other.row)
        while other.future:
            other.redo()
            seen.append(other.row)
        return line.row, line.table, line.limit, len(line), line.past, line.future, seen


class Starting(LineCase):
    def test_a_new_line(self):
        for size, said, book, limit in lines():
            line = Line(cast_of(size, said), book=book, limit=limit)
            self.same(line, Plain(size, said, book, limit))
            self.assertEqual([line.row, line.table, line.past, line.future], ["", Table.identity(size), 0, 0])

    def test_without_a_book_and_a_limit(self):
        self.assertEqual(LINE_LIMIT, 40)
        line = Line(Cast(3))
        self.assertEqual([line.limit, line.row, len(line)], [40, "", 0])
        line = Line(cast_of(2, {"b": ZERO}))
        line += "b" * 40
        self.refused(TooLong(40), lambda: line.add("b"))

    def test_a_book_as_a_list_and_as_a_tuple(self):
        cast = cast_of(2, {"b": ZERO})
        for book in [[0, 1], (0, 1), (1, 0, 1), [1, 0, 0]]:
            self.refused(Melted(0, 1), lambda: Line(cast, book=book).add("b"))
        for book in [[], (), [1], (0,), (0, 0), [1, 1, 1]]:
            line = Line(cast, book=book)
            line.add("b")
            self.assertEqual(line.row, "b")

    def test_later_changes_have_no_effect(self):
        cast, book = cast_of(2, {"a": SWAPS, "b": ZERO}), [0]
        line = Line(cast, book=book)
        line += "ab"
        book.append(1)
        cast.put("b", Person([0, 1], SAME))
        cast.leave("a")
        cast.put("z", Person([0, 1], SAME))
        self.assertEqual([line.row, line.table.rows()], ["ab", ZERO])
        line.add("b")
        self.assertEqual([line.row, line.table.rows()], ["abb", ZERO])
        line.take(2)
        line.take(1)
        self.assertEqual(line.table.rows(), SWAPS)
        self.refused(UnknownPerson("z", 0), lambda: line.add("z"))
        twin = line.twin()
        twin.add("b")
        self.assertEqual([twin.row, twin.table.rows()], ["ab", ZERO])
        self.assertEqual([cast.letters(), book], [["b", "z"], [0, 1]])

    def test_what_is_no_word_and_then_what_is_no_limit(self):
        for size in range(1, 7):
            for cast in [Cast(size), cast_of(size, some_said(size, "ab", 1))]:
                for book, word in [([size], size), ((0, -1, size), -1), ([FORTY, -1], FORTY), ((-FORTY,), -FORTY)]:
                    for limit in [40, 0, -1, 61, FORTY]:
                        self.refused(UnknownWord(word), lambda: Line(cast, book=book, limit=limit))
                for limit in [-1, 61, FORTY, -FORTY, 62, -60]:
                    self.refused(BadCount(limit), lambda: Line(cast, book=[0], limit=limit))
                for limit in [0, 1, 59, 60]:
                    self.assertEqual(Line(cast, limit=limit).limit, limit)

    def test_out(self):
        line = Line(cast_of(3, {"a": [[2, 1], [1], [0]]}))
        self.assertEqual([line.out(word) for word in range(3)], [[0], [1], [2]])
        line.add("a")
        self.assertEqual([line.out(word) for word in range(3)], [[1, 2], [1], [0]])
        line.out(0).clear()
        self.assertEqual(line.out(0), [1, 2])
        for word in [3, -1, FORTY, -FORTY]:
            self.refused(UnknownWord(word), lambda: line.out(word))


class Changing(LineCase):
    def test_drawn_deeds(self):
        errors = {}
        for number, (size, said, book, limit) in enumerate(lines()):
            for seed in (1, 2):
                draws = Draws(number * 10 + seed)
                line, plain = Line(cast_of(size, said), book=book, limit=limit), Plain(size, said, book, limit)
                for _ in range(120):
                    name, *parts = drawn_deed(draws, said, len(plain.row))
                    error = self.carried_out(line, plain, "change_limit" if name == "limit" else name, *parts)
                    errors[error] = errors.get(error, 0) + 1
        self.assertEqual(set(errors), {
            type(None), BadCount, BadPlace, Melted, NothingToRedo, NothingToUndo, TooLong, UnknownPerson,
        })
        self.assertGreater(min(errors.values()), 30)

    def test_known_changes(self):
        line = Line(cast_of(2, {"a": SWAPS, "b": ZERO, "c": ONE}))
        self.assertIsNone(line.add("b"))
        self.assertIsNone(line.insert(0, "a"))
        self.assertIsNone(line.insert(2, "c"))
        self.assertIsNone(line.insert(1, "a"))
        self.assertEqual([line.row, line.table.rows(), line.past], ["aabc", ONE, 4])
        self.assertIsNone(line.swap(2))
        self.assertEqual([line.row, line.table.rows()], ["aacb", ZERO])
        self.assertIsNone(line.take(3))
        self.assertIsNone(line.take(0))
        self.assertEqual([line.row, line.table.rows(), line.past, line.future], ["ac", ONE, 7, 0])

    def test_places(self):
        for row in ["", "a", "ab", "abca"]:
            line = Line(cast_of(2, {"a": SWAPS, "b": ZERO, "c": ONE}), limit=len(row))
            line += row
            state = self.state(line)
            length = len(row)
            for at in [-1, -2, -length, -length - 1, length, length + 1, FORTY, -FORTY]:
                if at not in range(length):
                    self.refused(BadPlace(at), lambda: line.take(at))
            for at in [-1, -2, -length, length - 1, length, length + 1, FORTY, -FORTY]:
                if at not in range(length - 1):
                    self.refused(BadPlace(at), lambda: line.swap(at))
            for at in [-1, -2, -length - 1, length + 1, length + 2, FORTY, -FORTY]:
                # The place comes ahead of the letter and of the limit.
                for letter in ["a", "q", ""]:
                    self.refused(BadPlace(at), lambda: line.insert(at, letter))
            self.assertEqual(self.state(line), state)

    def test_letters_of_nobody_come_ahead_of_the_limit(self):
        for limit in [0, 1, 2, 60]:
            line = Line(cast_of(2, {"a": SWAPS, "b": ZERO}), limit=limit, book=[0, 1])
            line += "a" * min(limit, 2)
            state = self.state(line)
            for letter in NOBODY:
                self.refused(UnknownPerson(letter, 0), lambda: line.add(letter))
                for at in range(len(line) + 1):
                    self.refused(UnknownPerson(letter, 0), lambda: line.insert(at, letter))
            self.assertEqual(self.state(line), state)

    def test_the_limit_comes_ahead_of_what_melts(self):
        line = Line(cast_of(2, {"a": SWAPS, "b": ZERO}), limit=1, book=[0, 1])
        self.refused(Melted(0, 1), lambda: line.add("b"))
        self.refused(Melted(0, 1), lambda: line.insert(0, "b"))
        line.add("a")
        for letter in "ab":
            self.refused(TooLong(1), lambda: line.add(letter))
            self.refused(TooLong(1), lambda: line.insert(1, letter))
        line.undo()
        self.assertEqual([line.row, line.future], ["", 1])

    def test_a_limit_of_nothing_and_of_sixty(self):
        line = Line(cast_of(2, {"a": SWAPS}), limit=0)
        self.refused(TooLong(0), lambda: line.add("a"))
        self.refused(TooLong(0), lambda: line.insert(0, "a"))
        self.refused(BadPlace(0), lambda: line.take(0))
        line = Line(cast_of(2, {"a": SWAPS}), limit=60, book=[0, 1])
        for count in range(60):
            line.add("a")
            self.assertEqual([len(line), line.past], [count + 1, count + 1])
        self.refused(TooLong(60), lambda: line.add("a"))
        self.assertEqual([line.row, line.table.rows()], ["a" * 60, SAME])

    def test_what_melts_in_the_row_that_would_result(self):
        # a brings 0 and 2 to 1 and 2, which b makes one.
        cast = cast_of(3, {"a": [[1], [0], [2]], "b": [[0], [2], [2]], "c": [[0], [2], [1]]})
        line = Line(cast, book=[2, 0])
        line.add("b")
        state = self.state(line)
        self.refused(Melted(0, 2), lambda: line.insert(0, "a"))
        self.assertEqual(self.state(line), state)
        line.insert(0, "c")
        line.insert(2, "a")
        self.assertEqual(line.row, "cba")
        self.refused(Melted(0, 2), lambda: line.insert(0, "a"))

    def test_taking_somebody_away_may_melt_words(self):
        cast = cast_of(3, {"t": [[1], [2], [0]], "j": [[0], [0], [2]]})
        line = Line(cast, book=[0, 1])
        line += "tj"
        self.refused(Melted(0, 1), lambda: line.take(0))
        self.refused(Melted(0, 1), lambda: line.swap(0))
        self.assertEqual([line.row, line.past, line.future], ["tj", 1, 0])
        line.take(1)
        self.assertEqual(line.row, "t")

    def test_the_first_pair_that_melts(self):
        cast = cast_of(5, {"a": [[0], [1], [2], [2], [1]], "z": [[0], [0], [0], [0], [0]]})
        for book, letter, pair in [([4, 3, 2, 1], "a", (1, 4)), ([4, 3, 2], "a", (2, 3)), ([4, 3], "z", (3, 4)),
                                   ([1, 4, 0], "z", (0, 1)), ([4, 1, 4, 1], "a", (1, 4)), ([2, 3, 4, 0], "a", (2, 3))]:
            self.refused(Melted(*pair), lambda: Line(cast, book=book).add(letter))

    def test_a_swap_of_equal_letters_and_of_people_who_cannot_change_places(self):
        line = Line(cast_of(2, {"a": ZERO, "b": ONE}))
        line += "aab"
        line.swap(0)
        self.assertEqual([line.row, line.past, line.future], ["aab", 2, 0])
        line.swap(1)
        self.assertEqual([line.row, line.past, line.table.rows()], ["aba", 3, ZERO])
        line.undo()
        self.assertEqual([line.row, line.past, line.future], ["aab", 2, 1])
        line.undo()
        line.swap(0)
        self.assertEqual([line.row, line.past, line.future], ["aab", 2, 0])


class Adding(LineCase):
    def test_drawn_additions(self):
        kinds = {}
        for number, (size, said, book, limit) in enumerate(lines()):
            draws = Draws(number + 50)
            line, plain = Line(cast_of(size, said), book=book, limit=limit), Plain(size, said, book, limit)
            for _ in range(40):
                letters = sorted(said) * 5 + ["q"]
                text = "".join(letters[draws.below(len(letters))] for _ in range(draws.below(4)))
                error, same = plain.more(text), line
                if error is None:
                    line += text
                    self.assertIs(line, same)
                else:
                    self.refused(error, lambda: line.__iadd__(text))
                self.same(line, plain)
                kinds[type(error)] = kinds.get(type(error), 0) + 1
                if draws.below(3) == 0 and plain.now:
                    self.carried_out(line, plain, "undo")
                if draws.below(4) == 0 and plain.row:
                    self.carried_out(line, plain, "take", 0)
        self.assertEqual(set(kinds), {type(None), Melted, TooLong, UnknownPerson})
        self.assertGreater(min(kinds.values()), 20)

    def test_one_change_of_the_same_line(self):
        line = first = Line(cast_of(2, {"a": SWAPS, "b": ZERO}))
        line += "ab"
        line += "a"
        self.assertIs(line, first)
        self.assertEqual([line.row, line.past], ["aba", 2])
        line.undo()
        self.assertEqual([line.row, line.future], ["ab", 1])
        line.undo()
        self.assertEqual([line.row, line.past, line.future], ["", 0, 2])
        line.redo()
        self.assertEqual([line.row, line.table.rows()], ["ab", ZERO])
        line += "b"
        self.assertEqual([line.row, line.past, line.future], ["abb", 2, 0])

    def test_the_empty_string_is_no_change(self):
        line = first = Line(cast_of(2, {"a": SWAPS}), limit=2)
        line += ""
        self.assertEqual([line.row, line.past, line.future], ["", 0, 0])
        line += "aa"
        line.undo()
        line += ""
        self.assertEqual([line.row, line.past, line.future], ["", 0, 1])
        line.redo()
        line += ""
        self.assertEqual([line.row, line.past, line.future], ["aa", 1, 0])
        self.assertIs(line, first)

    def test_the_first_letter_that_is_refused_decides(self):
        cast = cast_of(2, {"a": SWAPS, "b": ZERO})
        line = Line(cast, book=[0, 1], limit=3)
        line.add("a")
        line.add("a")
        line.undo()
        state = self.state(line)
        for letters, error in [
            ("q", UnknownPerson("q", 0)), ("aqb", UnknownPerson("q", 0)), ("aaq", UnknownPerson("q", 0)),
            ("aaaq", TooLong(3)), ("aaa", TooLong(3)), ("ab", Melted(0, 1)), ("abq", Melted(0, 1)),
            ("aab", TooLong(3)), ("baaaa", Melted(0, 1)), ("?", UnknownPerson("?", 0)), ("a" * 500, TooLong(3)),
        ]:
            self.refused(error, lambda: line.__iadd__(letters))
            self.assertEqual(self.state(line), state, letters)
        line += "aa"
        self.assertEqual([line.row, line.past, line.future], ["aaa", 2, 0])

    def test_sixty_letters_at_once(self):
        said = some_said(6, "abcdefgh", 1, 1)
        line = Line(cast_of(6, said), limit=60)
        row = ("hgfedcba" * 8)[:60]
        self.at_once(lambda: line.__iadd__(row))
        self.assertEqual([line.row, line.past], [row, 1])
        self.assertEqual(line.table, table_along(6, said, row))
        self.refused(TooLong(60), lambda: line.__iadd__("a"))
        self.at_once(lambda: self.moves(line))
        self.assertEqual([len(line), line.past, line.future], [60, 241, 0])

    def moves(self, line):
        for at in range(60):
            line.take(at)
            line.insert(at, "a")
            line.swap(at % 59)
            line.swap(58 - at % 59)
            line.undo()
            line.redo()


class History(LineCase):
    def test_both_ends(self):
        line = Line(cast_of(2, {"a": SWAPS}))
        self.refused(NothingToUndo(), line.undo)
        self.refused(NothingToRedo(), line.redo)
        line.add("a")
        self.refused(NothingToRedo(), line.redo)
        self.assertIsNone(line.undo())
        self.refused(NothingToUndo(), line.undo)
        self.assertEqual([line.row, line.table.rows(), line.past, line.future], ["", SAME, 0, 1])
        self.assertIsNone(line.redo())
        self.refused(NothingToRedo(), line.redo)
        self.assertEqual([line.row, line.table.rows(), line.past, line.future], ["a", SWAPS, 1, 0])

    def test_each_change_makes_what_was_taken_back_unavailable(self):
        for work, row in [(lambda line: line.add("a"), "aba"), (lambda line: line.insert(0, "b"), "bab"),
                          (lambda line: line.take(1), "a"), (lambda line: line.swap(0), "ba"),
                          (lambda line: line.__iadd__("bb"), "abbb")]:
            line = Line(cast_of(2, {"a": SWAPS, "b": ZERO}))
            line += "ab"
            line.add("a")
            line.add("b")
            line.undo()
            line.undo()
            self.assertEqual([line.past, line.future], [1, 2])
            work(line)
            self.assertEqual([line.row, line.past, line.future], [row, 2, 0])
            self.refused(NothingToRedo(), line.redo)
            line.undo()
            self.assertEqual(line.row, "ab")

    def test_what_is_refused_leaves_what_was_taken_back(self):
        line = Line(cast_of(2, {"a": SWAPS, "b": ZERO}), book=[0, 1])
        line += "aa"
        line.add("a")
        line.undo()
        state = self.state(line)
        for error, work in [
            (Melted(0, 1), lambda: line.add("b")), (UnknownPerson("x", 0), lambda: line.add("x")),
            (BadPlace(2), lambda: line.take(2)), (BadPlace(1), lambda: line.swap(1)),
            (BadPlace(3), lambda: line.insert(3, "a")), (Melted(0, 1), lambda: line.insert(1, "b")),
            (TooLong(1), lambda: line.change_limit(1)), (BadCount(61), lambda: line.change_limit(61)),
            (UnknownWord(2), lambda: line.out(2)), (Melted(0, 1), lambda: line.__iadd__("aab")),
        ]:
            self.refused(error, work)
            self.assertEqual(self.state(line), state)
        line.redo()
        self.assertEqual([line.row, line.future], ["aaa", 0])

    def test_undo_and_redo_do_not_check_the_limit(self):
        line = Line(cast_of(2, {"a": SWAPS}), limit=5)
        line += "aaaa"
        line.take(0)
        line.take(0)
        line.limit = 2
        line.undo()
        line.undo()
        self.assertEqual([line.row, line.limit, len(line)], ["aaaa", 2, 4])
        self.refused(TooLong(2), lambda: line.add("a"))
        self.refused(TooLong(2), lambda: line.insert(0, "a"))
        self.refused(TooLong(3), lambda: line.change_limit(3))
        line.swap(0)
        line.take(3)
        self.assertEqual([line.row, line.limit, line.past], ["aaa", 2, 3])
        line.limit = 3
        line.undo()
        line.undo()
        line.undo()
        line.limit = 0
        line.redo()
        self.assertEqual([line.row, line.limit], ["aaaa", 0])

    def test_a_long_history(self):
        line = Line(cast_of(2, {"a": SWAPS}))
        self.at_once(lambda: self.many(line))
        self.assertEqual([line.past, line.future, line.row], [6000, 0, ""])
        self.at_once(lambda: [line.undo() for _ in range(6000)])
        self.assertEqual([line.past, line.future, line.row], [0, 6000, ""])

    def many(self, line):
        for _ in range(3000):
            line.add("a")
            line.take(0)


class Limits(LineCase):
    def test_assigned_and_by_the_method(self):
        for change in [lambda line, limit: line.change_limit(limit), self.assign]:
            line = Line(cast_of(2, {"a": SWAPS}))
            line += "aaa"
            for limit in [3, 60, 4, 59]:
                self.assertIsNone(change(line, limit))
                self.assertEqual([line.limit, line.row, line.past, line.future], [limit, "aaa", 1, 0])
            for limit in [-1, 61, FORTY, -FORTY]:
                self.refused(BadCount(limit), lambda: change(line, limit))
            for limit in [0, 1, 2]:
                self.refused(TooLong(limit), lambda: change(line, limit))
            self.assertEqual(line.limit, 59)

    def assign(self, line, limit):
        line.limit = limit

    def test_the_limit_is_no_part_of_the_history(self):
        line = Line(cast_of(2, {"a": SWAPS}), limit=1)
        line.add("a")
        line.limit = 5
        self.assertEqual([line.past, line.future], [1, 0])
        line += "aa"
        line.undo()
        line.limit = 7
        self.assertEqual([line.past, line.future, line.limit], [1, 1, 7])
        line.undo()
        self.assertEqual([line.limit, line.row], [7, ""])
        line.redo()
        line.redo()
        self.assertEqual([line.limit, line.row], [7, "aaa"])

    def test_what_cannot_be_assigned(self):
        line = Line(cast_of(2, {"a": SWAPS}))
        for name in ["row", "table", "past", "future"]:
            with self.assertRaises(AttributeError):
                setattr(line, name, getattr(line, name))


class Twins(LineCase):
    def test_a_twin_is_like_the_line(self):
        for number, (size, said, book, limit) in enumerate(lines()):
            draws = Draws(number + 70)
            line, plain = Line(cast_of(size, said), book=book, limit=limit), Plain(size, said, book, limit)
            for _ in range(25):
                name, *parts = drawn_deed(draws, said, len(plain.row))
                self.carried_out(line, plain, "change_limit" if name == "limit" else name, *parts)
            twin, other = line.twin(), copy.copy(plain)
            self.assertIsNot(twin, line)
            self.assertIs(type(twin), Line)
            self.assertEqual(self.state(twin), self.state(line))
            # Each of the two goes its own way from here.
            for _ in range(25):
                name, *parts = drawn_deed(draws, said, len(plain.row))
                self.carried_out(line, plain, "change_limit" if name == "limit" else name, *parts)
                name, *parts = drawn_deed(draws, said, len(other.row))
                self.carried_out(twin, other, "change_limit" if name == "limit" else name, *parts)
                self.same(line, plain)
                self.same(twin, other)

    def test_a_twin_that_is_changed(self):
        line = Line(cast_of(2, {"a": SWAPS, "b": ZERO}), book=[0, 1], limit=5)
        line += "a"
        line += "aa"
        line.undo()
        twin = line.twin()
        self.assertEqual([twin.row, twin.limit, twin.past, twin.future], ["a", 5, 1, 1])
        twin.redo()
        twin.add("a")
        twin.limit = 4
        self.assertEqual([line.row, line.limit, line.past, line.future], ["a", 5, 1, 1])
        line.undo()
        line.add("a")
        self.assertEqual([twin.row, twin.limit, twin.past, twin.future], ["aaaa", 4, 3, 0])
        self.refused(Melted(0, 1), lambda: twin.insert(0, "b") if len(twin) < 4 else twin.take(0) or twin.add("b"))
        self.assertEqual(twin.row, "aaa")
        twins = [twin.twin().twin() for _ in range(2)]
        twins[0].take(0)
        self.assertEqual([twins[0].row, twins[1].row, twin.row], ["aa", "aaa", "aaa"])

    def test_a_twin_whose_row_is_beyond_its_limit(self):
        line = Line(cast_of(2, {"a": SWAPS}))
        line += "aaa"
        line.undo()
        line.limit = 1
        line.redo()
        twin = line.twin()
        self.assertEqual([twin.row, twin.limit, twin.past], ["aaa", 1, 1])
        self.refused(TooLong(1), lambda: twin.add("a"))


class Attempts(LineCase):
    def test_drawn_deeds(self):
        kinds = {}
        for number, (size, said, book, limit) in enumerate(lines()):
            draws = Draws(number + 90)
            line, plain = Line(cast_of(size, said), book=book, limit=limit), Plain(size, said, book, limit)
            for _ in range(60):
                deeds = [drawn_deed(draws, said, len(plain.row)) for _ in range(draws.below(5))]
                told = list(deeds)
                refusal = plain.attempt(deeds)
                if refusal is None:
                    self.assertEqual(attempt(line, deeds), len(deeds))
                else:
                    self.refused_deed(refusal, line, deeds)
                self.assertEqual(deeds, told)
                self.same(line, plain)
                kinds[refusal and type(refusal[1])] = kinds.get(refusal and type(refusal[1]), 0) + 1
            self.assertEqual(self.state(line)[-1], plain.rows)
        self.assertEqual(len(kinds), 8)
        self.assertGreater(min(kinds.values()), 15)

    def refused_deed(self, refusal, line, deeds):
        index, error = refusal
        with self.assertRaises(Refused) as caught:
            attempt(line, deeds)
        self.assertEqual(vars(caught.exception), {"index": index})
        cause = caught.exception.__cause__
        self.assertIs(type(cause), type(error))
        self.assertEqual(vars(cause), vars(error))
        self.assertIsInstance(cause, MurmurError)

    def test_each_deed(self):
        line = Line(cast_of(2, {"a": SWAPS, "b": ZERO}))
        deeds = [("add", "a"), ("insert", 0, "b"), ("swap", 0), ("limit", 7), ("take", 1)]
        deeds += [("undo",), ("redo",), ("undo",)]
        self.assertEqual(attempt(line, deeds), 8)
        self.assertEqual([line.row, line.limit, line.past, line.future], ["ab", 7, 3, 1])

    def test_no_deeds(self):
        line = Line(cast_of(2, {"a": SWAPS}))
        line.add("a")
        line.add("a")
        line.undo()
        state = self.state(line)
        self.assertEqual(attempt(line, []), 0)
        self.assertEqual(self.state(line), state)

    def test_each_change_is_one_of_its_own(self):
        line = Line(cast_of(2, {"a": SWAPS}))
        self.assertEqual(attempt(line, [("add", "a"), ("add", "a"), ("swap", 0), ("swap", 0)]), 4)
        self.assertEqual([line.row, line.past, line.future], ["aa", 4, 0])
        line.undo()
        self.assertEqual([line.row, line.past], ["aa", 3])
        line.undo()
        line.undo()
        self.assertEqual([line.row, line.past, line.future], ["a", 1, 3])

    def test_undo_may_take_back_what_was_before(self):
        line = Line(cast_of(2, {"a": SWAPS, "b": ZERO}))
        line.add("a")
        line.add("b")
        self.assertEqual(attempt(line, [("undo",), ("undo",), ("add", "b"), ("undo",), ("redo",)]), 5)
        self.assertEqual([line.row, line.past, line.future], ["b", 1, 0])

    def test_nothing_is_left_of_a_refused_list(self):
        line = Line(cast_of(2, {"a": SWAPS, "b": ZERO}), book=[0, 1], limit=9)
        line += "aaa"
        line.add("a")
        line.take(1)
        line.undo()
        line.undo()
        state = self.state(line)
        self.assertEqual(state[-1], ["", "aaa", "aaaa", "aaa"])
        for index, error, deeds in [
            (1, BadPlace(5), [("add", "a"), ("take", 5)]), (0, Melted(0, 1), [("add", "b"), ("add", "q")]),
            (2, NothingToUndo(), [("undo",), ("limit", 0), ("undo",)]),
            (2, NothingToRedo(), [("redo",), ("redo",), ("redo",)]),
            (3, TooLong(4), [("limit", 4), ("add", "a"), ("swap", 0), ("add", "a")]),
            (1, BadCount(61), [("take", 0), ("limit", 61)]), (1, TooLong(2), [("limit", 3), ("limit", 2)]),
            (4, UnknownPerson("q", 0), [("undo",), ("add", "a"), ("undo",), ("redo",), ("insert", 0, "q")]),
            (1, BadPlace(-1), [("undo",), ("swap", -1)]), (1, BadPlace(4), [("undo",), ("insert", 4, "q")]),
            (5, Melted(0, 1), [("undo",), ("redo",), ("redo",), ("limit", 30), ("swap", 1), ("insert", 2, "b")]),
        ]:
            self.refused_deed((index, error), line, deeds)
            self.assertEqual(self.state(line), state)
            self.assertEqual(line.limit, 9)
        line.redo()
        line.redo()
        self.assertEqual([line.row, line.future], ["aaa", 0])

    def test_the_same_line_is_changed(self):
        line = Line(cast_of(2, {"a": SWAPS}))
        twin, row = line.twin(), line.row
        attempt(line, [("add", "a")])
        self.assertEqual([line.row, twin.row, row], ["a", "", ""])
        line.add("a")
        self.assertEqual([line.row, line.past], ["aa", 2])

    def test_lists_and_tuples_are_left_alone(self):
        deeds = [("add", "a"), ("take", 5)]
        self.refused_deed((1, BadPlace(5)), Line(cast_of(2, {"a": SWAPS})), deeds)
        self.assertEqual(deeds, [("add", "a"), ("take", 5)])

    def test_many_deeds(self):
        line = Line(cast_of(6, some_said(6, "abcdefgh", 1, 1)), limit=60)
        deeds = [("add", "abcdefgh"[count % 8]) for count in range(60)] + [("take", 3), ("insert", 3, "d")] * 100
        self.assertEqual(self.at_once(lambda: attempt(line, deeds)), 260)
        self.assertEqual([len(line), line.past], [60, 260])
        self.refused_deed((1, TooLong(60)), line, [("swap", 58), ("add", "a")])


if __name__ == "__main__":
    unittest.main()

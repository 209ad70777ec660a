"""What the points promise together: answers of different modules about the same casts, and objects side by side."""

import functools
import itertools
import unittest

from murmurline.apart import apart_words, find_book, find_melt
from murmurline.beside import candidates, common_outs
from murmurline.books import clashes, fewest_informed, fewest_places, first_clash, greatest_book, greatest_pairs
from murmurline.casts import Cast
from murmurline.clues import Clues
from murmurline.echo import ranks, ring, undetected
from murmurline.errors import Melted, MurmurError, TooMany, UnknownPerson
from murmurline.lines import Line, attempt
from murmurline.losing import earlier, further, told_back
from murmurline.losses import lost_clash, most_lost, subrows
from murmurline.lots import Lot
from murmurline.notes import format_cast, lot_lines, parse_cast
from murmurline.patterns import came_from, matches, rows_of, spread
from murmurline.people import Doubter, Knower, KnowingDoubter, Person
from murmurline.swaps import least_order, order_matters, orders, swap_clash, swap_path, swappable
from murmurline.tables import Table
from tests.helper import Draws, MurmurCase, cast_of, some_said

EIGHT = "abcdwxyz"
CIRCLE = [[1], [2], [3], [4], [5], [0]]


@functools.cache
def said_and_lots():
    """What the people of casts say, with the lots of these casts; only casts with few tables are taken."""
    told = [(2, {"a": [[1], [0]], "b": [[0], [0]]}), (6, {"a": CIRCLE}), (3, {})]
    for size, letters in itertools.product(range(1, 6), ["a", "bc", "adz"]):
        told += [(size, some_said(size, letters, seed, dense)) for seed, dense in [(1, 1), (2, 2), (3, 1), (4, 2)]]
    found = []
    for size, said in told:
        try:
            found.append((size, said, Lot(cast_of(size, said), most=70)))
        except TooMany:
            continue
    assert len(found) > 45
    return found


def everything(cast, row, book):
    """What the functions tell of a cast, with the kinds of errors where they refuse to answer."""
    works = [
        lambda: cast.letters(), lambda: cast.through(row), lambda: list(rows_of(cast, "*?", 2)),
        lambda: spread(cast, "*"), lambda: came_from(cast, "?*", book), lambda: find_melt(cast, "*", 0, 1),
        lambda: find_book(cast, "?", 0, 1), lambda: apart_words(cast, "?*"), lambda: greatest_book(cast, "*"),
        lambda: first_clash(cast, "*", book), lambda: clashes(cast, "?", book),
        lambda: fewest_informed(cast, "*", book), lambda: fewest_places(cast, row, book),
        lambda: greatest_pairs(cast, "?"), lambda: swappable(cast),
        lambda: least_order(cast, row), lambda: swap_path(cast, row, row[::-1]),
        lambda: swap_clash(cast, row, row[::-1]), lambda: order_matters(cast, row),
        lambda: lost_clash(cast, row, 2, 0, 1), lambda: most_lost(cast, row, book),
        lambda: ranks(cast), lambda: ring(cast), lambda: candidates(cast, [row], [0]),
        lambda: common_outs(cast, [row], 0, 1), lambda: format_cast(cast), lambda: Lot(cast, most=30).names(),
        lambda: len(cast), lambda: "a" in cast, lambda: matches(cast, "*", row), lambda: Line(cast, book=book).limit,
    ]
    told = []
    for work in works:
        try:
            told.append(work())
        except MurmurError as error:
            told.append((type(error), vars(error)))
    return told


def telling(lot):
    return lot.names(), list(lot.walk()), lot_lines(lot), lot.reached(""), lot.least("")


class LotsBesideOtherAnswers(MurmurCase):
    def test_words_that_melt_in_the_rows_of_a_lot(self):
        for size, said, lot in said_and_lots():
            cast = cast_of(size, said)
            apart = apart_words(cast, "*")
            for first, second in itertools.combinations(range(size), 2):
                row = lot.search(lambda table: bool(set(table[first]) & set(table[second])))
                melt = find_melt(cast, "*", first, second)
                self.assertEqual(row, melt and melt[0])
                self.assertEqual((first, second) in apart, row is None)
                self.assertEqual(find_book(cast, "*", first, second) is None, row is not None)
                self.assertEqual(first_clash(cast, "*", [second, first]), None if row is None else (first, second, row))

    def test_what_comes_out_somewhere_comes_out_in_the_lot(self):
        for size, said, lot in said_and_lots():
            cast = cast_of(size, said)
            union = functools.reduce(lambda one, other: one | other, [table for _, table in lot.walk()])
            self.assertEqual(spread(cast, "*"), union)
            self.assertEqual(came_from(cast, "*", [0]), (~union)[0])
            self.assertEqual(ring(cast) is None, undetected(union, union) == [])
            if ring(cast) is not None:
                sent, got, out_row, home_row = ring(cast)
                self.assertEqual(out_row, lot.search(lambda table: (sent, got) in table))
                self.assertEqual(home_row, lot.search(lambda table: (got, sent) in table))

    def test_rows_that_go_on_only_lose_more(self):
        found = 0
        for size, said, lot in said_and_lots():
            cast = cast_of(size, said)
            names = lot.names()[:12]
            for row, other in itertools.product(names, repeat=2):
                first, whole = cast.through(row), cast.through(other)
                behind, ahead = lot.behind(row, other), lot.ahead(row, other)
                if behind is not None:
                    self.assertTrue(cast.through(behind) <= further(first, whole))
                    self.assertEqual(first * cast.through(behind), whole)
                    found += 1
                if ahead is not None:
                    self.assertTrue(cast.through(ahead) <= earlier(first, whole))
                    self.assertEqual(cast.through(ahead + row), whole)
        self.assertGreater(found, 1000)

    def test_the_rhythm_is_that_of_the_table(self):
        for size, said, lot in said_and_lots():
            cast = cast_of(size, said)
            for row in lot.names()[:20]:
                lead, period = lot.rhythm(row)
                table = cast.through(row)
                self.assertEqual(table.repeated(lead), table.repeated(lead + period))
                self.assertEqual(table.repeated(lead), table.repeated(lead + 10 ** 30 * period))
                self.assertEqual(lot.name_of(table.repeated(lead)), lot.least(row * lead))

    def test_rows_with_swaps_and_losses_are_in_the_lot(self):
        for number, (size, said, lot) in enumerate(said_and_lots()):
            cast, draws = cast_of(size, said), Draws(number)
            letters = cast.letters()
            row = "".join(letters[draws.below(len(letters))] for _ in range(5 if letters else 0))
            self.assertEqual(lot.least(least_order(cast, row)), lot.least(row))
            differing = [order for order in orders(row) if lot.least(order) != lot.least(min(orders(row)))]
            matters = order_matters(cast, row)
            self.assertEqual(matters and matters[1], differing[0] if differing else None)
            for lost in range(6):
                for rest in subrows(row, lost):
                    self.assertIn(cast.through(rest), lot)
                    self.assertEqual(swap_clash(cast, rest, least_order(cast, rest)), None)

    def test_what_is_written_of_a_cast_makes_the_same_lot(self):
        for size, said, lot in said_and_lots():
            cast = cast_of(size, said)
            other = Lot(parse_cast(format_cast(cast)), most=70)
            self.assertEqual([other.names(), list(other.walk())], [lot.names(), list(lot.walk())])
            self.assertEqual(lot_lines(other), lot_lines(lot))

    def test_a_clue_about_the_person_in_the_middle(self):
        for size, said, lot in said_and_lots():
            cast = cast_of(size, said)
            for letter in cast.letters():
                clues = Clues(size)
                for row, other in itertools.product(lot.names()[:4], repeat=2):
                    clues.add(cast.through(row), cast.through(other), cast.through(row + letter + other))
                self.assertIs(clues.fits(cast[letter]), True)
                self.assertTrue(cast[letter] <= clues.solve())
                self.assertIsNone(clues.refute())


class BooksBesideOtherAnswers(MurmurCase):
    def test_a_safe_book_can_be_told_back_in_each_row(self):
        for size, said, lot in said_and_lots():
            cast = cast_of(size, said)
            book = greatest_book(cast, "*")
            self.assertIsNone(first_clash(cast, "*", book))
            for _, table in lot.walk():
                back = told_back(table, book)
                self.assertTrue(all((table * back)[word] == [word] for word in book))
            for word, member, row in clashes(cast, "*", book):
                self.assertIsNone(told_back(cast.through(row), [word, member]))

    def test_the_people_who_must_be_informed(self):
        for size, said, lot in said_and_lots():
            cast = cast_of(size, said)
            every = list(range(size))
            letters = fewest_informed(cast, "*", every)
            self.assertEqual(greatest_book(cast.informed(letters), "*"), every)
            self.assertIsNone(first_clash(cast, "*", every, informed=letters))
            for fewer in subrows(letters, 1):
                self.assertNotEqual(first_clash(cast, "*", every, informed=fewer), None)

    def test_places_and_losses_of_a_row(self):
        for number, (size, said, lot) in enumerate(said_and_lots()):
            cast, draws = cast_of(size, said), Draws(number + 30)
            letters = cast.letters()
            row = "".join(letters[draws.below(len(letters))] for _ in range(6 if letters else 0))
            every = list(range(size))
            places = fewest_places(cast, row, every)
            rest = "".join(letter for at, letter in enumerate(row) if at not in places)
            # Whoever passes on every word might as well be missing.
            self.assertIsNotNone(told_back(cast.through(rest), every))
            self.assertIn(rest, list(subrows(row, len(places))))
            most = most_lost(cast, row, every)
            for lost in range(len(row) + 1):
                safe = all(told_back(cast.through(left), every) is not None for left in subrows(row, lost))
                if lost <= most:
                    self.assertTrue(safe)
                elif lost == most + 1:
                    self.assertFalse(safe)

    def test_listeners_at_several_rows(self):
        for size, said, lot in said_and_lots():
            cast = cast_of(size, said)
            rows = lot.names()[:3]
            for word in range(size):
                outs = [cast.through(row)[word][0] for row in rows]
                self.assertIn(word, candidates(cast, rows, outs))
                for other in range(size):
                    if other != word:
                        common = common_outs(cast, rows, word, other)
                        if common is not None:
                            self.assertLessEqual({word, other}, set(candidates(cast, rows, common)))
                        else:
                            self.assertTrue(any(told_back(cast.through(row), [word, other]) for row in rows))


class LinesBesideOtherAnswers(MurmurCase):
    def test_the_row_of_a_line_keeps_its_book_safe(self):
        refused = 0
        for number, (size, said, lot) in enumerate(said_and_lots()):
            cast, draws = cast_of(size, said), Draws(number + 60)
            letters, book = cast.letters(), [0, size - 1]
            line = Line(cast, book=book, limit=12)
            for _ in range(20 if letters else 0):
                letter, at = letters[draws.below(len(letters))], draws.below(len(line) + 1)
                row = line.row[:at] + letter + line.row[at:]
                try:
                    line.insert(at, letter)
                    self.assertEqual(line.row, row)
                except Melted as error:
                    refused += 1
                    self.assertIsNone(told_back(cast.through(row), [error.first, error.second]))
                except MurmurError:
                    line.take(0) if told_back(cast.through(line.row[1:]), book) else line.undo()
                self.assertEqual(line.table, cast.through(line.row))
                self.assertIn(line.table, lot)
                self.assertIsNotNone(told_back(line.table, book))
        self.assertGreater(refused, 100)

    def test_a_line_that_follows_a_path_of_swaps(self):
        for number, (size, said, lot) in enumerate(said_and_lots()):
            cast, draws = cast_of(size, said), Draws(number + 80)
            letters = cast.letters()
            row = "".join(letters[draws.below(len(letters))] for _ in range(7 if letters else 0))
            line = Line(cast)
            line += row
            table = line.table
            path = swap_path(cast, row, least_order(cast, row))
            self.assertEqual(attempt(line, [("swap", at) for at in path]), len(path))
            self.assertEqual([line.row, line.table], [least_order(cast, row), table])
            attempt(line, [("undo",)] * len(path))
            self.assertEqual(line.row, row)


class SideBySide(MurmurCase):
    def test_a_changed_cast(self):
        for size in (2, 3, 4, 5):
            cast = cast_of(size, some_said(size, "abc", 3, 1))
            lot, line = Lot(cast, most=1000), Line(cast, book=[0])
            informed, told = cast.informed("b"), telling(lot)
            line += "abc"
            line.undo()
            twin, row = line.twin(), everything(informed, "bca", [0])
            # The changed cast must answer as a new one does.
            same = list(range(size))
            cast.put("z", Doubter(same, [[0]] * size))
            cast["a"] = Knower(same, [[size - 1]] * size, [0])
            cast.leave("c")
            fresh = Cast(size, z=Doubter(same, [[0]] * size), a=Knower(same, [[size - 1]] * size, [0]))
            fresh.put("b", Person(same, some_said(size, "abc", 3, 1)["b"]))
            self.assertEqual(everything(cast, "zab", [0, 1]), everything(fresh, "zab", [0, 1]))
            self.assertEqual(everything(informed, "bca", [0]), row)
            self.assertEqual(telling(lot), told)
            self.refused(UnknownPerson("z", 0), lambda: twin.add("z"))
            line.redo()
            self.assertEqual([line.row, twin.row, twin.future], ["abc", "", 1])
            twin.add("c")
            self.assertEqual([line.row, twin.row, line.table], ["abc", "c", lot_table(lot, "abc")])

    def test_two_casts_side_by_side(self):
        one, other = cast_of(2, {"a": [[1], [0]], "b": [[0], [0]]}), cast_of(3, some_said(3, "ab", 1, 1))
        alone = everything(one, "ab", [0, 1]), everything(other, "ba", [0, 2])
        walks = Lot(one).walk(), Lot(other).walk(), rows_of(one, "*", 4), rows_of(other, "?a*", 3), subrows("abab", 2)
        mixed = [[] for _ in walks]
        for _ in range(20):
            for found, walk in zip(mixed, walks):
                found.extend(next(walk, None) or [None])
        self.assertEqual([found[:2] for found in mixed[:2]], [["", Table.identity(2)], ["", Table.identity(3)]])
        self.assertEqual("".join(filter(None, mixed[2])), "".join(rows_of(one, "*", 4)))
        self.assertEqual("".join(filter(None, mixed[4])), "aaabbabb")
        self.assertEqual((everything(one, "ab", [0, 1]), everything(other, "ba", [0, 2])), alone)

    def test_one_person_in_several_casts(self):
        person = KnowingDoubter([1, 2, 0], [[0, 1], [1], [2]], [1])
        one, other = Cast(3, a=person, b=person), Cast(3, z=person)
        self.assertEqual([one["a"], one["b"]], [other["z"]] * 2)
        one.leave("a")
        other.put("a", Person([0, 0, 0], [[2], [2], [2]]))
        self.assertEqual([one.letters(), other.letters(), one["b"]], [["b"], ["a", "z"], person.table])
        self.assertEqual(swappable(Cast(3, a=person, b=person)), [("a", "b")])

    def test_arguments_are_left_alone(self):
        cast, book, rows, outs = cast_of(3, some_said(3, "ab", 2, 1)), [2, 0, 2], ["ab", "b"], [0, 1]
        copies = format_cast(cast), list(book), list(rows), list(outs)
        everything(cast, "ab", book)
        candidates(cast, rows, outs)
        common_outs(cast, rows, 0, 1)
        Line(cast, book=book).twin()
        told_back(cast["a"], book)
        self.assertEqual((format_cast(cast), book, rows, outs), copies)

    def test_eight_people_and_six_words(self):
        said = some_said(6, EIGHT, 2, 2)
        cast = cast_of(6, said)
        text = format_cast(cast)
        every = [0, 1, 2, 3, 4, 5]
        row = EIGHT[::-1]
        for work in [
            lambda: everything(cast, row, every), lambda: ring(cast), lambda: fewest_places(cast, row, every),
            lambda: lost_clash(cast, row, 8, 0, 5), lambda: fewest_informed(cast, "*" * 12, every),
            lambda: order_matters(cast, row[:6]), lambda: swap_path(cast, row * 5, least_order(cast, row * 5)),
            lambda: apart_words(cast, "?" * 12), lambda: next(rows_of(cast, "*", 40)),
            lambda: most_lost(cast, row, every),
        ]:
            self.at_once(work)
        self.refused(TooMany(8), lambda: cast.put("m", Person(every, [[0]] * 6)))
        self.refused(TooMany(400), lambda: Lot(cast))
        line = Line(cast, limit=60)
        self.at_once(lambda: line.__iadd__((EIGHT * 8)[:60]))
        self.assertEqual(line.table, cast.through((EIGHT * 8)[:60]))
        self.assertEqual(format_cast(parse_cast(text)), text)
        self.assertEqual(format_cast(cast), text)


def lot_table(lot, row):
    return next(table for name, table in lot.walk() if name == lot.least(row))


if __name__ == "__main__":
    unittest.main()

"""Points 2, 3, 26 and 27: the tables of all rows of a cast, and how rows go on."""

import functools
import itertools
import unittest

from murmurline.casts import Cast
from murmurline.errors import TooMany, UnknownPerson
from murmurline.lots import MOST_TABLES, Lot
from murmurline.people import Person
from murmurline.tables import Table
from tests.helper import (
    FORTY, Draws, MurmurCase, all_strings, all_tables, cast_of, outs_along, some_said, some_tables, table_along,
)

SWAPS, ZERO = [[1], [0]], [[0], [0]]
# These were looked for: the number of tables of their lots is just at a limit or one beyond it.
EXACT = {
    400: (4, {"a": [[0], [2], [3], [2, 3]], "b": [[0, 3], [1, 2], [0], [1]], "c": [[2, 3], [0], [1, 3], [2]]}),
    401: (4, {"a": [[2], [0, 3], [1, 2], [2, 3]], "b": [[0], [1], [1, 3], [2]], "c": [[1], [1], [0], [3]]}),
    1000: (6, {"a": [[2], [1], [3], [2, 4], [2, 3], [4]], "b": [[0], [3, 4], [1], [2], [2], [5]]}),
    1001: (5, {"a": [[1, 2], [3], [0, 2], [4], [1]], "b": [[4], [1], [2, 3], [0, 2], [1]],
               "c": [[0, 3], [2, 4], [1], [1], [2]]}),
}


def plain_lot(size, said, enough=4000):
    """The least row of each table and the rows that were gone through, or None if these are more than enough.

    All rows are gone through, one length after the other, until a length brings no new table.
    """
    found, length, gone = {}, 0, []
    while True:
        rows = ["".join(chosen) for chosen in itertools.product(sorted(said), repeat=length)]
        if len(gone) + len(rows) > enough:
            return None
        fresh = {}
        for row in rows:
            outs = outs_along(size, said, row)
            if outs not in found:
                fresh.setdefault(outs, row)
        if not fresh:
            return found, gone
        found.update(fresh)
        gone += rows
        length += 1


@functools.cache
def plain_casts():
    """Casts with what their people say, the least rows of their tables, and all rows up to the longest of these."""
    told = [(size, {}) for size in (1, 2, 6)] + [(2, {"a": SWAPS}), (2, {"a": SWAPS, "b": ZERO})]
    told += [(2, {"b": ZERO, "z": SWAPS, "a": [[0], [0, 1]]})]
    for size in range(1, 6):
        for letters in ["a", "ab", "cdx"]:
            kinds = [(1, 1), (2, 2), (3, 1), (4, 2), (5, 1), (6, 1), (7, 2)]
            told += [(size, some_said(size, letters, seed, dense)) for seed, dense in kinds]
    found = []
    for size, said in told:
        lot = plain_lot(size, said)
        if lot is not None:
            found.append((size, said, *lot))
    assert len(found) > 80 and max(len(names) for _, _, names, _ in found) > 50
    return found


def small():
    return Lot(cast_of(2, {"a": SWAPS, "b": ZERO}))


class Tables(MurmurCase):
    def test_names_and_tables(self):
        for size, said, names, _ in plain_casts():
            lot = Lot(cast_of(size, said))
            self.assertEqual(lot.names(), list(names.values()), said)
            self.assertEqual(len(lot), len(names))
            expected = [(name, Table([sorted(some) for some in outs])) for outs, name in names.items()]
            self.assertEqual(list(lot.walk()), expected)
            self.assertTrue(all(type(pair) is tuple for pair in lot.walk()))

    def test_known_lots(self):
        self.assertEqual(small().names(), ["", "a", "b", "ba"])
        tables = [Table.identity(2), Table(SWAPS), Table(ZERO), Table([[1], [1]])]
        self.assertEqual([table for _, table in small().walk()], tables)
        circle = Lot(cast_of(6, {"n": [[1], [2], [3], [4], [5], [0]]}))
        self.assertEqual(circle.names(), ["n" * count for count in range(6)])
        # Names are ordered by their length first.
        lot = Lot(cast_of(3, {"a": [[1], [2], [0]], "b": [[0], [1], [1]]}))
        self.assertEqual(lot.names()[:6], ["", "a", "b", "aa", "ab", "ba"])
        self.assertEqual(lot.names(), sorted(lot.names(), key=lambda name: (len(name), name)))

    def test_two_people_with_one_table(self):
        lot = Lot(cast_of(2, {"q": SWAPS, "d": SWAPS, "m": ZERO, "x": [[0], [1]]}))
        self.assertEqual(lot.names(), ["", "d", "m", "md"])
        self.assertEqual([lot.least("q"), lot.least("x"), lot.least("qxq"), lot.least("mq")], ["d", "", "", "md"])

    def test_an_empty_cast(self):
        for size in range(1, 7):
            lot = Lot(Cast(size))
            self.assertEqual([lot.names(), len(lot), list(lot.walk())], [[""], 1, [("", Table.identity(size))]])
            self.assertEqual([lot.least(""), lot.behind("", ""), lot.ahead("", "")], ["", "", ""])
            self.assertEqual([lot.reached(""), lot.rhythm("")], [[""], (0, 1)])
            self.assertIs(Table.identity(size) in lot, True)
            self.assertIs(Table.full(size) in lot, size == 1)

    def test_which_tables_it_holds(self):
        for size, said, names, _ in plain_casts():
            lot = Lot(cast_of(size, said))
            for outs, name in names.items():
                table = Table([sorted(some) for some in outs])
                self.assertIs(table in lot, True)
                self.assertEqual(lot.name_of(table), name)
            others = all_tables(size) if size < 4 else some_tables(size, 30)
            for table in others:
                name = names.get(tuple(frozenset(row) for row in table.rows()))
                self.assertIs(table in lot, name is not None)
                self.assertEqual(lot.name_of(table), name)

    def test_tables_of_another_size(self):
        for size in range(1, 7):
            lot = Lot(cast_of(size, some_said(size, "a", 2)))
            for other in range(1, 7):
                for table in [Table.identity(other), Table.full(other), Table.empty(other)] + some_tables(other, 5):
                    if size != other:
                        self.assertIs(table in lot, False)
                        self.assertIsNone(lot.name_of(table))
        # The same pairs, but one word more.
        lot = Lot(cast_of(2, {"b": ZERO}))
        self.assertIs(Table([[0], [0]]) in lot, True)
        self.assertIs(Table([[0], [0], []]) in lot, False)
        self.assertIsNone(lot.name_of(Table([[0], [0], []])))

    def test_the_least_row_that_is_alike(self):
        for size, said, names, rows in plain_casts():
            lot = Lot(cast_of(size, said))
            for row in rows[:300]:
                self.assertEqual(lot.least(row), names[outs_along(size, said, row)])
        self.assertEqual(small().least("a" * 10001 + "b" * 500 + "a" * 777), "ba")

    def test_rows_of_the_same_table_are_alike(self):
        draws = Draws(5)
        for size, said, names, _ in plain_casts():
            lot = Lot(cast_of(size, said))
            for _ in range(20 if said else 0):
                row = "".join(sorted(said)[draws.below(len(said))] for _ in range(draws.below(30)))
                self.assertEqual(lot.name_of(table_along(size, said, row)), lot.least(row))

    def test_what_is_returned_is_new(self):
        lot = small()
        lot.names().append("x")
        lot.reached("a").clear()
        self.assertEqual([lot.names(), lot.reached("a"), len(lot)], [["", "a", "b", "ba"], ["", "a", "b", "ba"], 4])

    def test_changes_of_the_cast_have_no_effect(self):
        cast = cast_of(2, {"a": SWAPS, "b": ZERO})
        lot = Lot(cast)
        walk = lot.walk()
        self.assertEqual(next(walk)[0], "")
        cast.leave("a")
        cast.put("b", Person([0, 1], [[0], [1]]))
        cast["c"] = Person([0, 1], [[0, 1], [1]])
        self.assertEqual([name for name, _ in walk], ["a", "b", "ba"])
        self.assertEqual([lot.names(), len(lot), lot.least("aab")], [["", "a", "b", "ba"], 4, "b"])
        self.assertEqual([lot.behind("b", "ba"), lot.ahead("b", "ba"), lot.rhythm("a")], ["a", None, (0, 2)])
        self.assertEqual(lot.reached("b"), ["b", "ba"])
        self.refused(UnknownPerson("c", 1), lambda: lot.least("ac"))
        self.assertEqual(Lot(cast).names(), ["", "c"])
        self.assertEqual(cast.letters(), ["b", "c"])

    def test_the_cast_is_left_as_it_is(self):
        said = {"a": SWAPS, "b": ZERO}
        cast = cast_of(2, said)
        lot = Lot(cast)
        lot.behind("ab", "b")
        lot.rhythm("ab")
        self.assertEqual([cast.letters(), [cast[letter].rows() for letter in "ab"]], [["a", "b"], [SWAPS, ZERO]])


class Limits(MurmurCase):
    def test_the_most_tables(self):
        self.assertEqual(MOST_TABLES, 400)
        for count in (400, 1000):
            cast = cast_of(*EXACT[count])
            self.assertEqual(len(self.at_once(lambda: Lot(cast, most=count))), count)
            self.refused(TooMany(count - 1), lambda: Lot(cast, most=count - 1))
        for count in (401, 1001):
            cast = cast_of(*EXACT[count])
            self.refused(TooMany(count - 1), lambda: Lot(cast, most=count - 1))
            self.assertEqual(len(Lot(cast, most=count)), count)

    def test_without_a_limit_of_its_own(self):
        self.assertEqual(len(Lot(cast_of(*EXACT[400]))), 400)
        for count in (401, 1000, 1001):
            self.refused(TooMany(400), lambda: Lot(cast_of(*EXACT[count])))

    def test_exactly_so_many_and_one_more(self):
        for size, said, names, _ in plain_casts():
            cast = cast_of(size, said)
            self.assertEqual(len(Lot(cast, most=len(names))), len(names))
            self.assertEqual(len(Lot(cast, most=len(names) + 1)), len(names))
            for fewer in {len(names) - 1, len(names) // 2, 1, 0} - {len(names)}:
                self.refused(TooMany(fewer), lambda: Lot(cast, most=fewer))

    def test_below_one(self):
        for cast in [Cast(1), Cast(6), cast_of(2, {"a": SWAPS, "b": ZERO}), cast_of(*EXACT[401])]:
            for most in [0, -1, -400, -FORTY]:
                self.refused(TooMany(most), lambda: Lot(cast, most=most))

    def test_one(self):
        self.assertEqual(Lot(Cast(4), most=1).names(), [""])
        self.assertEqual(Lot(cast_of(2, {"x": [[0], [1]], "y": [[0], [1]]}), most=1).names(), [""])
        self.refused(TooMany(1), lambda: Lot(cast_of(2, {"x": [[0], [0]]}), most=1))

    def test_far_too_many_tables(self):
        # There are far more tables than could be gone through.
        said = some_said(6, "abcdefgh", 3)
        for most in [1, 10, 400, 1000]:
            self.refused(TooMany(most), lambda: self.at_once(lambda: Lot(cast_of(6, said), most=most)))
        self.refused(TooMany(400), lambda: self.at_once(lambda: Lot(cast_of(6, said))))

    def test_great_lots(self):
        for count in (400, 1000):
            size, said = EXACT[count]
            lot = Lot(cast_of(size, said), most=count)
            names = lot.names()
            self.assertEqual(names, sorted(names, key=lambda name: (len(name), name)))
            tables = [table_along(size, said, name) for name in names]
            self.assertEqual([table for _, table in lot.walk()], tables)
            self.assertEqual(len({str(table) for table in tables}), count)
            self.at_once(lambda: self.great(lot, names, count))

    def great(self, lot, names, count):
        last = names[-1]
        self.assertIsNone(lot.search(lambda table: False))
        self.assertEqual(lot.behind("", last), last)
        self.assertEqual(lot.ahead("", last), last)
        self.assertEqual(len(lot.reached("")), count)
        self.assertIn(last, lot.reached(last))
        lead, period = lot.rhythm(last)
        self.assertEqual(lot.least(last * lead), lot.least(last * (lead + period)))


class Walks(MurmurCase):
    def test_a_walk_that_is_left_in_the_middle(self):
        lot = small()
        for name, _ in lot.walk():
            if name == "a":
                break
        self.assertEqual([name for name, _ in lot.walk()], ["", "a", "b", "ba"])

    def test_walks_beside_each_other(self):
        lot = small()
        one, other = lot.walk(), lot.walk()
        self.assertIsNot(iter(one), iter(other))
        self.assertEqual([next(one)[0], next(one)[0], next(other)[0], next(one)[0]], ["", "a", "", "b"])
        self.assertEqual([name for name, _ in other], ["a", "b", "ba"])
        self.assertEqual(next(one), ("ba", Table([[1], [1]])))
        self.assertIsNone(next(one, None))

    def test_a_walk_is_no_list(self):
        walk = small().walk()
        self.assertIs(iter(walk), walk)
        self.assertEqual(next(walk), ("", Table.identity(2)))


class Searching(MurmurCase):
    def test_each_table_is_asked_once_up_to_the_first_true(self):
        for size, said, names, _ in plain_casts():
            lot = Lot(cast_of(size, said))
            tables = [table for _, table in lot.walk()]
            for at in sorted({0, len(tables) // 2, len(tables) - 1}):
                asked = []
                found = lot.search(lambda table: asked.append(table) or table == tables[at])
                self.assertEqual(found, lot.names()[at])
                self.assertEqual(asked, tables[:at + 1])
            asked = []
            self.assertIsNone(lot.search(lambda table: asked.append(table) or False))
            self.assertEqual(asked, tables)

    def test_the_first_of_several(self):
        lot = small()
        self.assertEqual(lot.search(lambda table: True), "")
        self.assertEqual(lot.search(lambda table: not table == Table.identity(2)), "a")
        self.assertEqual(lot.search(lambda table: len(table([0, 1])) == 1), "b")
        self.assertEqual(lot.search(lambda table: table([0, 1]) == [1]), "ba")
        self.assertIsNone(lot.search(lambda table: (0, 1) in table and (0, 0) in table))

    def test_a_wish_that_asks_the_lot_itself(self):
        lot = small()
        self.assertEqual(lot.search(lambda table: lot.name_of(table) == lot.names()[2]), "b")
        self.assertEqual(lot.search(lambda table: lot.search(lambda other: other == table) == "ba"), "ba")

    def test_an_error_of_the_wish_comes_through(self):
        lot = small()
        self.refused(UnknownPerson("x", 7), lambda: lot.search(self.raising))
        self.assertEqual(lot.names(), ["", "a", "b", "ba"])

    def raising(self, table):
        raise UnknownPerson("x", 7)


class GoingOn(MurmurCase):
    def questions(self):
        """Casts with few tables, and rows of them."""
        for size, said, names, rows in plain_casts():
            if len(names) <= 40:
                draws = Draws(size + len(names))
                asked = list(names.values())[:6] + [rows[draws.below(len(rows))] for _ in range(4)]
                yield size, said, Lot(cast_of(size, said)), names, rows, asked

    def test_behind_by_trying_the_rows(self):
        missing = 0
        for size, said, lot, names, rows, asked in self.questions():
            for row in asked:
                ends = {}
                for more in rows:
                    ends.setdefault(outs_along(size, said, row + more), more)
                for other in asked:
                    expected = ends.get(outs_along(size, said, other))
                    missing += expected is None
                    self.assertEqual(lot.behind(row, other), expected, (said, row, other))
                self.assertEqual(lot.reached(row), [name for outs, name in names.items() if outs in ends])
        self.assertGreater(missing, 100)

    def test_ahead_by_trying_the_rows(self):
        missing = 0
        for size, said, lot, names, rows, asked in self.questions():
            for row in asked:
                starts = {}
                for more in rows:
                    starts.setdefault(outs_along(size, said, more + row), more)
                for other in asked:
                    expected = starts.get(outs_along(size, said, other))
                    missing += expected is None
                    self.assertEqual(lot.ahead(row, other), expected, (said, row, other))
        self.assertGreater(missing, 100)

    def test_the_rhythm_by_counting_copies(self):
        rhythms = set()
        for size, said, lot, names, rows, asked in self.questions():
            for row in asked + [row * 3 for row in asked[-2:]]:
                copies = [outs_along(size, said, row * count) for count in range(40)]
                pairs = [(lead, period) for lead in range(20) for period in range(1, 20)]
                expected = next(pair for pair in pairs if copies[pair[0]] == copies[sum(pair)])
                self.assertEqual(lot.rhythm(row), expected)
                self.assertIs(type(lot.rhythm(row)), tuple)
                rhythms.add(expected)
        self.assertGreater(len(rhythms), 7)

    def test_known_rows(self):
        lot = small()
        self.assertEqual([lot.rhythm("a"), lot.rhythm("b"), lot.rhythm("ba"), lot.rhythm("")],
                         [(0, 2), (1, 1), (1, 1), (0, 1)])
        self.assertEqual([lot.behind("b", "ba"), lot.behind("b", "a"), lot.behind("", "ab")], ["a", None, "b"])
        self.assertEqual([lot.ahead("b", "ba"), lot.ahead("a", "b"), lot.ahead("a", "ba")], [None, "ba", "b"])
        self.assertEqual([lot.reached("b"), lot.reached("a")], [["b", "ba"], ["", "a", "b", "ba"]])

    def test_rhythms_of_six_words(self):
        wide = cast_of(6, {"c": [[1], [2], [0], [4], [3], [5]], "n": [[1], [2], [3], [4], [5], [5]]})
        lot = Lot(wide, most=1000)
        self.assertEqual([lot.rhythm("c"), lot.rhythm("n"), lot.rhythm("cc")], [(0, 6), (5, 1), (0, 3)])
        late = Lot(cast_of(6, {"w": [[1], [2], [3], [4], [5], [0, 1]]}))
        self.assertEqual(late.rhythm("w"), (26, 1))
        self.assertEqual(late.names(), ["w" * count for count in range(27)])
        self.assertEqual([late.rhythm("w" * 5), late.rhythm("w" * 26)], [(6, 1), (1, 1)])

    def test_nobody_is_needed(self):
        for size, said, lot, names, rows, asked in self.questions():
            for row in asked:
                self.assertEqual([lot.behind(row, row), lot.ahead(row, row)], ["", ""])
                self.assertIn(names[outs_along(size, said, row)], lot.reached(row))

    def test_what_is_reached_is_what_can_stand_behind(self):
        for size, said, lot, names, rows, asked in self.questions():
            for row in asked:
                reached = lot.reached(row)
                for other in asked:
                    self.assertIs(lot.behind(row, other) is None, lot.least(other) not in reached)


class WrongRows(MurmurCase):
    def test_rows_with_letters_of_nobody(self):
        lot = small()
        for row, letter, place in [("x", "x", 0), ("abx", "x", 2), ("a*b", "*", 1), ("a?", "?", 1), ("Ab", "A", 0),
                                   ("ba ", " ", 2), ("\u00e9", "\u00e9", 0), ("abzyx", "z", 2)]:
            error = UnknownPerson(letter, place)
            for work in [lot.least, lot.reached, lot.rhythm]:
                self.refused(error, lambda: work(row))
            for other in ["", "ab", "yyy", "aay"]:
                self.refused(error, lambda: lot.behind(row, other))
                self.refused(error, lambda: lot.ahead(row, other))
            for other in all_strings("ab", 2):
                self.refused(error, lambda: lot.behind(other, row))
                self.refused(error, lambda: lot.ahead(other, row))
        self.assertEqual(lot.names(), ["", "a", "b", "ba"])

    def test_an_empty_cast(self):
        lot = Lot(Cast(3))
        self.refused(UnknownPerson("a", 0), lambda: lot.least("a"))
        self.refused(UnknownPerson("a", 0), lambda: lot.behind("", "a"))
        self.refused(UnknownPerson("b", 0), lambda: lot.ahead("ba", "a"))


if __name__ == "__main__":
    unittest.main()

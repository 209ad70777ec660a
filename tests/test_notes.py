"""Points 2, 3, 44 and 45: written forms of casts and lots."""

import functools
import itertools
import string
import unittest

from murmurline.casts import Cast
from murmurline.errors import BadLine
from murmurline.lots import Lot
from murmurline.notes import format_cast, lot_lines, parse_cast
from murmurline.people import Doubter, Knower, Person
from tests.helper import Draws, MurmurCase, cast_of, some_said

SWAPS, ZERO = [[1], [0]], [[0], [0]]
EIGHT = "abcdwxyz"
SIGNS = "size 0123456:>,-\nabz"


def written_table(rows):
    """What point 6 says of `str`."""
    entries = []
    for word, row in enumerate(rows):
        entries.append(str(word) + ">" + (",".join(str(out) for out in sorted(row)) or "-"))
    return " ".join(entries)


def written(size, said):
    return "\n".join([f"size {size}"] + [f"{letter}: {written_table(said[letter])}" for letter in sorted(said)])


@functools.cache
def total_tables(size):
    """All that may stand behind the colon for a size, each with its rows."""
    lists = [[word for word in range(size) if mask >> word & 1] for mask in range(1, 2 ** size)]
    return {written_table(rows): list(rows) for rows in itertools.product(lists, repeat=size)}


def first_wrong_line(text):
    """The number of the first wrong line by the words of point 44, or None; for texts of the sizes 1 to 3."""
    first, *others = text.split("\n")
    if first not in ["size 1", "size 2", "size 3", "size 4", "size 5", "size 6"]:
        return 1
    tables = total_tables(int(first[5]))
    before = []
    for number, line in enumerate(others, start=2):
        letter = line[:1]
        right = letter in list(string.ascii_lowercase) and line[1:3] == ": " and line[3:] in tables
        if not right or any(letter <= other for other in before) or len(before) == 8:
            return number
        before.append(letter)
    return None


def told(size, said):
    """What a text with these people tells, for comparison with a cast."""
    return size, {letter: [sorted(set(row)) for row in rows] for letter, rows in said.items()}


def found(cast):
    return cast.size, {letter: cast[letter].rows() for letter in cast.letters()}


def casts():
    result = [(size, {}) for size in range(1, 7)] + [(1, {letter: [[0]] for letter in "ahz"})]
    for size in range(1, 7):
        for letters in ["a", "cab", "zyx", EIGHT]:
            result += [(size, some_said(size, letters, seed, 3)) for seed in (1, 2)]
    return result + [(6, {letter: [list(range(6))] * 6 for letter in "hgfedcba"})]


class Written(MurmurCase):
    def test_casts_that_are_written(self):
        for size, said in casts():
            text = format_cast(cast_of(size, said))
            self.assertEqual(text, written(size, said))
            self.assertIs(type(text), str)

    def test_known_casts(self):
        cast = Cast(3, z=Doubter([1, 2, 0], [[0], [1], [2]]), b=Person([0, 0, 0], [[2, 0, 1, 0], [1], [1]]))
        self.assertEqual(format_cast(cast), "size 3\nb: 0>0,1,2 1>0,1,2 2>0,1,2\nz: 0>0,1 1>1,2 2>0,2")
        cast.put("m", Knower([1, 2, 0], [[0], [1], [2]], [1]))
        cast.leave("z")
        self.assertEqual(format_cast(cast), "size 3\nb: 0>0,1,2 1>0,1,2 2>0,1,2\nm: 0>1 1>1 2>0")
        self.assertEqual([format_cast(Cast(1)), format_cast(Cast(6))], ["size 1", "size 6"])
        self.assertEqual([cast.letters(), cast["m"].rows()], [["b", "m"], [[1], [1], [0]]])


class Read(MurmurCase):
    def test_what_was_written(self):
        for size, said in casts():
            text = written(size, said)
            cast = parse_cast(text)
            self.assertIs(type(cast), Cast)
            self.assertEqual(found(cast), told(size, said))
            self.assertEqual(format_cast(cast), text)

    def test_a_cast_that_was_read_can_be_used(self):
        cast = parse_cast("size 2\na: 0>1 1>0\nb: 0>0 1>0")
        self.assertEqual(cast.through("aab").rows(), ZERO)
        cast.put("c", Person([0, 1], [[0, 1], [1]]))
        cast.leave("a")
        self.assertEqual(format_cast(cast), "size 2\nb: 0>0 1>0\nc: 0>0,1 1>1")
        other = parse_cast("size 2\na: 0>1 1>0\nb: 0>0 1>0")
        self.assertEqual(other.letters(), ["a", "b"])
        self.assertEqual(Lot(other).names(), ["", "a", "b", "ba"])

    def test_every_total_table_of_small_sizes(self):
        for size in (1, 2, 3):
            for text, rows in total_tables(size).items():
                self.assertEqual(found(parse_cast(f"size {size}\nk: {text}")), (size, {"k": rows}))

    def test_every_letter(self):
        for letter in string.ascii_lowercase:
            self.assertEqual(parse_cast(f"size 1\n{letter}: 0>0").letters(), [letter])

    def test_eight_people_and_nine(self):
        lines = ["size 2"] + [f"{letter}: 0>1 1>0,1" for letter in "abcdefghi"]
        self.assertEqual(len(parse_cast("\n".join(lines[:9]))), 8)
        self.refused(BadLine(10), lambda: parse_cast("\n".join(lines)))
        self.refused(BadLine(10), lambda: parse_cast("\n".join(lines + lines)))
        self.refused(BadLine(10), lambda: parse_cast("\n".join(lines[:9] + ["hello"])))
        self.refused(BadLine(10), lambda: parse_cast("\n".join(lines[:9] + [""])))
        self.refused(BadLine(9), lambda: parse_cast("\n".join(lines[:8] + ["a: 0>1 1>0", lines[9]])))
        self.refused(BadLine(10), lambda: parse_cast("\n".join(["size 1"] + [f"{x}: 0>0" for x in "abcdefghij"])))

    def test_wrong_first_lines(self):
        for line in ["", "size", "size ", "size 0", "size 7", "size 9", "size 10", "size 22", "size 2 ", " size 2",
                     "Size 2", "size  2", "size\t2", "size +2", "size -2", "size 02", "size 2.", "size two",
                     "a: 0>0", "2", "size 2:", "size\u00a02", "size \u0662", "size \uff12",
                     "size 2\r", "\ufeffsize 2", "SIZE 2", "sizes 2", "size2"]:
            for rest in ["", "\n", "\na: 0>1 1>0", "\nwrong"]:
                self.refused(BadLine(1), lambda: parse_cast(line + rest))
        self.refused(BadLine(1), lambda: parse_cast("\nsize 2"))
        self.refused(BadLine(1), lambda: parse_cast("\n"))

    def test_wrong_later_lines(self):
        wrong = [
            "", " ", "a", "a:", "a: ", "a:0>1 1>0", "a : 0>1 1>0", " a: 0>1 1>0", "a: 0>1 1>0 ", "a:  0>1 1>0",
            "a: 0>1  1>0", "a: 0>1", "a: 0>1 1>0 2>0", "a: 0>1 1>-", "a: 0>- 1>-", "a: 0>1 1>", "a: 0>1,0 1>0",
            "a: 0>1,1 1>0", "a: 0>0,1, 1>0", "a: 0>,1 1>0", "a: 0>2 1>0", "a: 0>0,2 1>0", "a: 1>0 0>1", "a: 0>1 0>0",
            "a: 0>01 1>0", "a: 0>+1 1>0", "a: 0> 1 1>0", "a: 0>1, 1>0", "a: 0<1 1>0", "a: 0>1,1>0", "a: 0>1\t1>0",
            "a; 0>1 1>0", "a- 0>1 1>0", "A: 0>1 1>0", "aa: 0>1 1>0", "ab: 0>1 1>0", ": 0>1 1>0", "1: 0>1 1>0",
            "{: 0>1 1>0", "`: 0>1 1>0", "?: 0>1 1>0", "\u00e9: 0>1 1>0", "a\u00a0: 0>1 1>0", "a:\u00a00>1 1>0",
            "a: 0>\u0661 1>0", "a: 0>1 1>0\r", "a: 0>1 1>0\x0b", "a: 0>1 1>0\x0ca: 0>1 1>0", "a: 0>1 1>0\u2028",
            "size 2", "a: [[1], [0]]", "a: 0>1 1>0,-", "a: 0>-,1 1>0", "a: 0>0,1,0 1>0", "a: 0>11 1>0", "a: 0>-1 1>0",
        ]
        for line in wrong:
            for rest in ["", "\n", "\nb: 0>1 1>0", "\nwrong"]:
                self.refused(BadLine(2), lambda: parse_cast("size 2\n" + line + rest))
            # The same behind two right lines.
            for rest in ["", "\nz: 0>1 1>0", "\n\n"]:
                text = "size 2\na: 0>1 1>0\nb: 0>0 1>1\n" + line.replace("a", "k") + rest
                self.refused(BadLine(4), lambda: parse_cast(text))

    def test_the_order_of_letters(self):
        row = ": 0>0"
        for letters, line in [("ba", 3), ("aa", 3), ("aba", 4), ("abb", 4), ("zz", 3), ("abdc", 5), ("acbd", 4),
                              ("azy", 4)]:
            self.refused(BadLine(line), lambda: parse_cast("size 1\n" + "\n".join(x + row for x in letters)))
        self.assertEqual(parse_cast("size 1\n" + "\n".join(x + row for x in "adz")).letters(), ["a", "d", "z"])

    def test_the_empty_text_and_a_newline_at_the_end(self):
        self.refused(BadLine(1), lambda: parse_cast(""))
        self.refused(BadLine(2), lambda: parse_cast("size 2\n"))
        self.refused(BadLine(2), lambda: parse_cast("size 2\n\n"))
        self.refused(BadLine(3), lambda: parse_cast("size 2\na: 0>1 1>0\n"))
        self.refused(BadLine(3), lambda: parse_cast("size 2\na: 0>1 1>0\n\nb: 0>1 1>0"))
        self.refused(BadLine(1), lambda: parse_cast("size 2\r\na: 0>1 1>0"))
        self.refused(BadLine(10), lambda: parse_cast(written(1, {x: [[0]] for x in "abcdefgh"}) + "\n"))

    def test_tables_of_another_size(self):
        for size in (1, 2, 3):
            for other in (1, 2, 3):
                line = "a: " + written_table([[0]] * other)
                if size == other:
                    self.assertEqual(len(parse_cast(f"size {size}\n{line}")), 1)
                else:
                    self.refused(BadLine(2), lambda: parse_cast(f"size {size}\n{line}"))

    def check(self, text):
        wrong = first_wrong_line(text)
        if wrong is None:
            self.assertEqual(format_cast(parse_cast(text)), text)
        else:
            self.refused(BadLine(wrong), lambda: parse_cast(text))
        return wrong

    def test_texts_with_one_sign_changed(self):
        seen = {}
        for size, said in [(1, {"a": [[0]], "b": [[0]]}), (2, {"a": [[1], [0, 1]], "y": [[0], [1]]}),
                           (3, {"b": [[2], [0, 2], [0, 1, 2]]}), (2, {}), (1, {x: [[0]] for x in EIGHT})]:
            text = written(size, said)
            for at in range(len(text) + 1):
                for sign in SIGNS:
                    for other in [text[:at] + sign + text[at:], text[:at] + sign + text[at + 1:]]:
                        if not other.startswith(("size 4", "size 5", "size 6")):
                            seen[self.check(other)] = True
                self.check(text[:at] + text[at + 1:])
                self.check(text[:at])
        self.assertLessEqual({None, 1, 2, 3, 4, 9, 10}, set(seen))

    def test_drawn_texts(self):
        draws = Draws(6)
        kinds = {}
        for _ in range(1500):
            size = 1 + draws.below(3)
            tables = sorted(total_tables(size)) + sorted(total_tables(2))[:1]
            letters = sorted({"abcdefghijkz"[draws.below(12)] for _ in range(draws.below(12))})
            if draws.below(4) == 0:
                letters.append("g")
            lines = [f"size {size}"] + [f"{letter}: {tables[draws.below(len(tables))]}" for letter in letters]
            if draws.below(8) == 0:
                lines.insert(draws.below(len(lines) + 1), "")
            wrong = self.check("\n".join(lines))
            kinds[wrong] = kinds.get(wrong, 0) + 1
        self.assertGreater(kinds[None], 200)
        self.assertLessEqual(set(range(1, 11)), set(kinds))


class LotLines(MurmurCase):
    def test_by_the_names_and_tables(self):
        for size, said in [(2, {"a": SWAPS, "b": ZERO}), (6, {}), (3, some_said(3, "abz", 1, 2)),
                           (4, {"a": [[0], [2], [3], [2, 3]], "b": [[0, 3], [1, 2], [0], [1]],
                                "c": [[2, 3], [0], [1, 3], [2]]}),
                           (6, {"w": [[1], [2], [3], [4], [5], [0, 1]]})]:
            lot = Lot(cast_of(size, said))
            expected = []
            for index, (name, table) in enumerate(lot.walk()):
                number, pairs = str(index), str(len(table.pairs()))
                shown = name if name else "-"
                expected.append(" " * (4 - len(number)) + number + " " + shown + " " * (8 - len(shown)) + " "
                                + " " * (3 - len(pairs)) + pairs)
            lines = lot_lines(lot)
            self.assertEqual(lines, expected)
            self.assertIs(type(lines), list)

    def test_known_lots(self):
        lot = Lot(cast_of(2, {"a": SWAPS, "b": [[0, 1], [0]]}))
        self.assertEqual(lot_lines(lot)[:2], ["   0 -          2", "   1 a          2"])
        self.assertEqual(lot_lines(lot)[2:4], ["   2 b          3", "   3 ab         3"])
        self.assertEqual(lot_lines(Lot(Cast(6))), ["   0 -          6"])
        self.assertEqual(lot_lines(Lot(Cast(1))), ["   0 -          1"])
        lot_lines(lot).clear()
        self.assertEqual(len(lot_lines(lot)), len(lot))

    def test_names_of_eight_letters_and_more(self):
        lines = lot_lines(Lot(cast_of(6, {"w": [[1], [2], [3], [4], [5], [0, 1]]})))
        self.assertEqual(lines[7:10], ["   7 wwwwwww   14", "   8 wwwwwwww  15", "   9 wwwwwwwww  16"])
        self.assertEqual(lines[26], "  26 " + "w" * 26 + "  36")

    def test_a_great_lot(self):
        said = {"a": [[2], [1], [3], [2, 4], [2, 3], [4]], "b": [[0], [3, 4], [1], [2], [2], [5]]}
        lot = Lot(cast_of(6, said), most=1000)
        lines = self.at_once(lambda: lot_lines(lot))
        self.assertEqual([len(lines), lines[9][:5], lines[10][:5], lines[99][:5], lines[100][:5], lines[999][:5]],
                         [1000, "   9 ", "  10 ", "  99 ", " 100 ", " 999 "])


if __name__ == "__main__":
    unittest.main()

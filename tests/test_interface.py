"""The interface as the document lists it: where each name is defined, and what it takes."""

import importlib
import inspect
import unittest

from murmurline.clues import Clues
from murmurline.lines import Line
from murmurline.lots import Lot
from murmurline.people import Doubter, Knower, KnowingDoubter, Person
from murmurline.tables import Table
from tests.helper import cast_of

FUNCTIONS = {
    "tables": ["joined(*tables, size)"],
    "patterns": ["matches(cast, pattern, row)", "rows_of(cast, pattern, length)", "spread(cast, pattern)",
                 "came_from(cast, pattern, outs)"],
    "apart": ["find_melt(cast, pattern, first, second)", "find_book(cast, pattern, first, second)",
              "melt_holds(cast, pattern, first, second, paper)", "book_holds(cast, pattern, first, second, book)",
              "apart_words(cast, pattern)"],
    "losing": ["further(first, whole)", "earlier(last, whole)", "lost_pair(first, whole)",
               "lost_holds(first, whole, paper)", "told_back(table, book)"],
    "books": ["greatest_book(cast, pattern)", "first_clash(cast, pattern, book, *, informed='')",
              "clashes(cast, pattern, book)", "fewest_informed(cast, pattern, book)", "fewest_places(cast, row, book)",
              "greatest_pairs(cast, pattern)"],
    "swaps": ["swappable(cast)", "least_order(cast, row)", "swap_path(cast, row, other)",
              "swap_clash(cast, row, other)", "orders(row)", "order_matters(cast, row)"],
    "losses": ["subrows(row, lost)", "lost_clash(cast, row, most, first, second)", "most_lost(cast, row, book)"],
    "echo": ["undetected(there, back)", "ranks(cast)", "ring(cast)"],
    "beside": ["candidates(cast, rows, outs)", "common_outs(cast, rows, first, second)"],
    "lines": ["attempt(line, deeds)"],
    "notes": ["format_cast(cast)", "parse_cast(text)", "lot_lines(lot)"],
}
GENERATORS = ["rows_of", "orders", "subrows", "walk"]
# For each class its base, its methods with __init__ first, the properties that are read, and the signs it understands.
CLASSES = {
    "tables.Table": ("object", ["__init__(self, rows)", "identity(size)", "full(size)", "empty(size)",
                                "of(size, pairs)", "rows(self)", "pairs(self)", "repeated(self, count)"],
                     ["total", "certain"],
                     "getitem call contains len bool iter str repr eq le lt mul or and invert rshift lshift"),
    "people.Person": ("object", ["__init__(self, hears, says)", "heard(self, word)", "said(self, word)"], ["table"],
                      ""),
    "people.Knower": ("Person", ["__init__(self, hears, says, knows)", "said(self, word)"], ["known"], ""),
    "people.Doubter": ("Person", ["said(self, word)"], [], ""),
    "people.KnowingDoubter": ("Knower Doubter", ["said(self, word)"], [], ""),
    "casts.Cast": ("object", ["__init__(self, size, **people)", "put(self, letter, person)", "leave(self, letter)",
                              "letters(self)", "through(self, row)", "informed(self, letters)"], [],
                   "getitem setitem contains len"),
    "clues.Clues": ("object", ["__init__(self, size)", "add(self, first, last, whole)", "drop(self, number)",
                               "numbers(self)", "fits(self, table)", "solve(self)", "refute(self)",
                               "holds(self, paper)"], ["greatest"], "len contains"),
    "lots.Lot": ("object", ["__init__(self, cast, *, most=400)", "names(self)", "walk(self)", "name_of(self, table)",
                            "least(self, row)", "search(self, wish)", "behind(self, row, other)",
                            "ahead(self, row, other)", "reached(self, row)", "rhythm(self, row)"], [], "len contains"),
    "lines.Line": ("object", ["__init__(self, cast, *, book=(), limit=40)", "add(self, letter)",
                              "insert(self, at, letter)", "take(self, at)", "swap(self, at)", "undo(self)",
                              "redo(self)", "change_limit(self, limit)", "out(self, word)", "twin(self)"],
                   ["row", "table", "past", "future"], "len iadd"),
}
CONSTANTS = {"lots.MOST_TABLES": 400, "lines.LINE_LIMIT": 40}


def module(name):
    return importlib.import_module(f"murmurline.{name}")


def named(path):
    file, name = path.split(".")
    return getattr(module(file), name)


class Interface(unittest.TestCase):
    def test_functions(self):
        for file, texts in FUNCTIONS.items():
            for text in texts:
                name = text.split("(")[0]
                function = getattr(module(file), name)
                with self.subTest(name=name):
                    self.assertTrue(inspect.isfunction(function))
                    self.assertEqual(function.__module__, f"murmurline.{file}")
                    self.assertEqual(name + str(inspect.signature(function)), text)
                    self.assertIs(inspect.isgeneratorfunction(function), name in GENERATORS)

    def test_classes(self):
        for path, (bases, methods, properties, signs) in CLASSES.items():
            one = named(path)
            with self.subTest(name=path):
                self.assertEqual(one.__module__, "murmurline." + path.split(".")[0])
                self.assertEqual(" ".join(base.__name__ for base in one.__bases__), bases)
                for text in methods:
                    name = text.split("(")[0]
                    # Each method stands in the class itself.
                    self.assertIn(name, vars(one))
                    self.assertEqual(name + str(inspect.signature(getattr(one, name))), text)
                    self.assertIs(inspect.isgeneratorfunction(getattr(one, name)), name in GENERATORS)
                for name in properties:
                    self.assertIsInstance(vars(one)[name], property)
                    self.assertIsNone(vars(one)[name].fset)
                for name in signs.split():
                    self.assertIn(f"__{name}__", vars(one))

    def test_class_methods_and_the_static_method(self):
        for name in ["identity", "full", "empty"]:
            self.assertIsInstance(vars(Table)[name], classmethod)
        self.assertIsInstance(vars(Table)["of"], staticmethod)

    def test_constants_and_the_class_value(self):
        for path, value in CONSTANTS.items():
            self.assertEqual(named(path), value)
        self.assertEqual(Table.MOST, 6)

    def test_the_limit_of_a_line_can_be_assigned(self):
        self.assertIsNotNone(vars(Line)["limit"].fset)

    def test_attributes_are_set_when_an_object_is_created(self):
        people = [Person([0], [[0]]), Knower([0], [[0]], []), Doubter([0], [[0]]), KnowingDoubter([0], [[0]], [0])]
        for one in people + [Table([[0]]), cast_of(1, {}), Clues(1)]:
            self.assertEqual(vars(one)["size"], 1)

    def test_arguments_by_their_names(self):
        cast = cast_of(2, {"a": [[1], [0]], "b": [[0], [0]]})
        told = {"cast": cast, "pattern": "*", "row": "ab", "other": "ab", "length": 2, "outs": [0], "first": 0,
                "second": 1, "book": [0, 1], "paper": ("b", [0, 0], [1, 0]), "informed": "b", "lost": 1, "most": 1,
                "rows": ["ab"], "text": "size 2", "lot": Lot(cast), "line": Line(cast), "deeds": [("add", "a")]}
        for file in ["patterns", "apart", "books", "swaps", "losses", "beside", "lines", "notes"]:
            for text in FUNCTIONS[file]:
                function = getattr(module(file), text.split("(")[0])
                names = list(inspect.signature(function).parameters)
                if function.__name__ != "book_holds":
                    function(**{name: told[name] for name in names})

    def test_what_is_passed_by_keyword_only(self):
        cast = cast_of(2, {"a": [[1], [0]]})
        for work in [lambda: Lot(cast, 5), lambda: Line(cast, [0]), lambda: Line(cast, (), 40),
                     lambda: module("books").first_clash(cast, "*", [0], "a")]:
            with self.assertRaises(TypeError):
                work()
        self.assertEqual([len(Lot(cast=cast, most=2)), len(Line(cast=cast, limit=3, book=[0]))], [2, 0])


if __name__ == "__main__":
    unittest.main()

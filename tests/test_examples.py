"""The examples of the interface, as they stand in the document."""

import re
import unittest

EXAMPLES = """
>>> from murmurline.tables import Table
>>> first = Table([[1, 0], [1], [2]])
>>> last = Table([[2], [0, 1], [1]])
>>> (first * last).rows()
[[0, 1, 2], [0, 1], [1]]

>>> from murmurline.tables import Table
>>> whole = Table([[0], [0, 1]])
>>> (whole >> whole).rows()
[[0], [0, 1]]

>>> from murmurline.tables import Table
>>> str(Table([[1, 0], [], [2]]))
'0>0,1 1>- 2>2'

>>> from murmurline.tables import Table
>>> Table([[0], [2]])
raises BadTable(index=1)

>>> from murmurline.people import KnowingDoubter
>>> KnowingDoubter([1, 0, 2], [[2], [1], [0]], [2]).table.rows()
[[0, 1], [1, 2], [2]]

>>> from murmurline.casts import Cast
>>> from murmurline.people import Person
>>> cast = Cast(2, a=Person([0, 1], [[1], [0]]), b=Person([0, 0], [[0], [1]]))
>>> cast.through("ab").rows()
[[0], [0]]

>>> from murmurline.casts import Cast
>>> from murmurline.people import Person
>>> cast = Cast(2, a=Person([0, 1], [[1], [0]]))
>>> cast.through("aba")
raises UnknownPerson(letter='b', place=1)

>>> from murmurline.casts import Cast
>>> from murmurline.people import Person
>>> from murmurline.patterns import rows_of
>>> cast = Cast(2, a=Person([0, 1], [[1], [0]]), b=Person([0, 0], [[0], [1]]))
>>> list(rows_of(cast, "*a?", 3))
['aaa', 'aab', 'baa', 'bab']

>>> from murmurline.apart import find_melt
>>> from murmurline.casts import Cast
>>> from murmurline.people import Person
>>> cast = Cast(3, a=Person([0, 1, 2], [[1], [1, 2], [2]]))
>>> find_melt(cast, "*", 0, 2)
('aa', [0, 1, 2], [2, 2, 2])

>>> from murmurline.apart import find_book
>>> from murmurline.casts import Cast
>>> from murmurline.people import Person
>>> cast = Cast(2, a=Person([0, 1], [[1], [0]]))
>>> find_book(cast, "*", 1, 0)
[(0, 0, 1), (1, 0, 1)]

>>> from murmurline.losing import lost_pair
>>> from murmurline.tables import Table
>>> lost_pair(Table([[0], [0]]), Table([[0], [1]]))
(0, 0, [(0, 1)])

>>> from murmurline.clues import Clues
>>> from murmurline.tables import Table
>>> clues = Clues(2)
>>> number = clues.add(Table([[0], [0]]), Table.identity(2), Table([[0], [1]]))
>>> clues.refute()
(0, 0, 0, [(0, 0, 0, 1, 0)])

>>> from murmurline.casts import Cast
>>> from murmurline.lots import Lot
>>> from murmurline.people import Person
>>> lot = Lot(Cast(2, a=Person([0, 1], [[1], [0]]), b=Person([0, 0], [[0], [1]])))
>>> lot.names()
['', 'a', 'b', 'ba']

>>> from murmurline.casts import Cast
>>> from murmurline.lots import Lot
>>> from murmurline.people import Person
>>> lot = Lot(Cast(2, a=Person([0, 1], [[1], [0]]), b=Person([0, 0], [[0], [1]])))
>>> [lot.rhythm("a"), lot.behind("b", "ba"), lot.behind("b", "a"), lot.least("aab")]
[(0, 2), 'a', None, 'b']

>>> from murmurline.books import greatest_pairs
>>> from murmurline.casts import Cast
>>> from murmurline.people import Person
>>> cast = Cast(5, a=Person([0, 1, 2, 3, 4], [[0, 1], [1, 2], [2, 3], [3, 4], [4, 0]]))
>>> greatest_pairs(cast, "a")
[(0, 0), (1, 2), (2, 4), (3, 1), (4, 3)]

>>> from murmurline.casts import Cast
>>> from murmurline.people import Person
>>> from murmurline.swaps import least_order, swap_clash, swap_path
>>> zero = Person([0, 0], [[0], [1]])
>>> one = Person([1, 1], [[0], [1]])
>>> cast = Cast(2, a=zero, b=one, c=Person([0, 1], [[0], [1]]))
>>> [least_order(cast, "bca"), swap_path(cast, "cab", "abc"), swap_clash(cast, "ab", "ba")]
['bac', [0, 1], ('order', 'ab')]

>>> from murmurline.losses import subrows
>>> list(subrows("abab", 2))
['aa', 'ab', 'ba', 'bb']

>>> from murmurline.casts import Cast
>>> from murmurline.echo import ranks
>>> from murmurline.people import Person
>>> ranks(Cast(3, a=Person([0, 1, 2], [[0, 2], [1], [1, 2]])))
[0, 2, 1]

>>> from murmurline.casts import Cast
>>> from murmurline.lines import Line, attempt
>>> from murmurline.people import Person
>>> line = Line(Cast(2, a=Person([0, 1], [[1], [0]])))
>>> attempt(line, [("add", "a"), ("take", 5)])
raises Refused(index=1)

>>> from murmurline.notes import parse_cast
>>> parse_cast("size 2\\na: 0>0 1>-")
raises BadLine(line=2)
"""


def shown(statements):
    """What the last of the statements gives, written as the document writes it."""
    names = {}
    for statement in statements[:-1]:
        exec(statement, names)
    try:
        return repr(eval(statements[-1], names))
    except ValueError as error:
        attributes = ", ".join(f"{name}={value!r}" for name, value in vars(error).items())
        return f"raises {type(error).__name__}({attributes})"


class Examples(unittest.TestCase):
    def test_each_example(self):
        examples = EXAMPLES.strip().split("\n\n")
        self.assertEqual(len(examples), 20)
        for example in examples:
            *statements, expected = example.split("\n")
            with self.subTest(example=example):
                self.assertEqual(shown([re.sub("^>>> ", "", line) for line in statements]), expected)


if __name__ == "__main__":
    unittest.main()

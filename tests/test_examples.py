"""The examples of the interface, as they stand in the document."""

import re
import unittest

EXAMPLES = """
>>> from murmurline.tables import Table
>>> first = Table([[1, 0], [1], [2]])
>>> last = Table([[2], [0, 1], [1]])
>>> (first * last).rows()
[[0, 1, 2], [0, 1], [1]]

>>> from murmurline.tables import Table
>>> whole = Table([[0], [0, 1]])
>>> (whole >> whole).rows()
[[0], [0, 1]]

>>> from murmurline.tables import Table
>>> str(Table([[1, 0], [], [2]]))
'0>0,1 1>- 2>2'

>>> from murmurline.tables import Table
>>> Table([[0], [2]])
raises BadTable(index=1)

>>> from murmurline.people import KnowingDoubter
>>> KnowingDoubter([1, 0, 2], [[2], [1], [0]], [2]).table.rows()
[[0, 1], [1, 2], [2]]

>>> from murmurline.casts import Cast
>>> from murmurline.people import Person
>>> cast = Cast(2, a=Person([0, 1], [[1], [0]]), b=Person([0, 0], [[0], [1]]))
>>> cast.through("ab").rows()
[[0], [0]]

>>> from murmurline.casts import Cast
>>> from murmurline.people import Person
>>> cast = Cast(2, a=Person([0, 1], [[1], [0]]))
>>> cast.through("aba")
raises UnknownPerson(letter='b', place=1)
"""


def shown(statements):
    """What the last of the statements gives, written as the document writes it."""
    names = {}
    for statement in statements[:-1]:
        exec(statement, names)
    try:
        return repr(eval(statements[-1], names))
    except ValueError as error:
        attributes = ", ".join(f"{name}={value!r}" for name, value in vars(error).items())
        return f"raises {type(error).__name__}({attributes})"


class Examples(unittest.TestCase):
    def test_each_example(self):
        examples = EXAMPLES.strip().split("\n\n")
        self.assertEqual(len(examples), 7)
        for example in examples:
            *statements, expected = example.split("\n")
            with self.subTest(example=example):
                self.assertEqual(shown([re.sub("^>>> ", "", line) for line in statements]), expected)


if __name__ == "__main__":
    unittest.main()

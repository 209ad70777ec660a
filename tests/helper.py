"""What several test files share."""

import random
import signal
import unittest

from murmurline.tables import Table


class MurmurCase(unittest.TestCase):
    def refused(self, error, work):
        """work() must raise an error of the very class of `error` with the same attributes."""
        with self.assertRaises(type(error)) as caught:
            work()
        self.assertIs(type(caught.exception), type(error))
        self.assertEqual(vars(caught.exception), vars(error))

    def at_once(self, work):
        """work() must end within a few seconds."""
        def too_slow(*_):
            raise AssertionError("this takes too long")

        before = signal.signal(signal.SIGALRM, too_slow)
        signal.alarm(10)
        try:
            return work()
        finally:
            signal.alarm(0)
            signal.signal(signal.SIGALRM, before)


def all_rows(size):
    """The rows of all tables of a size, for small sizes."""
    lists = [[word for word in range(size) if mask >> word & 1] for mask in range(2 ** size)]
    found = [[]]
    for _ in range(size):
        found = [rows + [row] for rows in found for row in lists]
    return found


def all_tables(size):
    return [Table(rows) for rows in all_rows(size)]


def some_rows(size, count, seed=1):
    """Rows of different density, the same ones in each run."""
    chance = random.Random(f"{size} {seed}")
    found = []
    for index in range(count):
        share = (1 + index % 5) / 6
        found.append([[out for out in range(size) if chance.random() < share] for _ in range(size)])
    return found


def some_tables(size, count, seed=1):
    return [Table(rows) for rows in some_rows(size, count, seed)]


def pair_list(rows):
    """The pairs of rows, worked out without the program."""
    return sorted({(told, out) for told, row in enumerate(rows) for out in row})


def rows_of_pairs(size, pairs):
    return [sorted({out for told, out in pairs if told == word}) for word in range(size)]


def behind(size, first, last):
    """The product of two sets of pairs, by its definition."""
    words = range(size)
    return {(a, c) for a in words for c in words if any((a, b) in first and (b, c) in last for b in words)}

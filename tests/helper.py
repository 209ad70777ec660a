"""What several test files share."""

import functools
import itertools
import signal
import unittest

from murmurline.casts import Cast
from murmurline.people import Person
from murmurline.tables import Table

FORTY = 10 ** 40 - 1


class MurmurCase(unittest.TestCase):
    def refused(self, error, work):
        """work() must raise an error of the very class of `error` with the same attributes."""
        with self.assertRaises(type(error)) as caught:
            work()
        self.assertIs(type(caught.exception), type(error))
        self.assertEqual(vars(caught.exception), vars(error))

    def at_once(self, work):
        """work() must end within a few seconds."""
        def too_slow(*_):
            raise AssertionError("this takes too long")

        before = signal.signal(signal.SIGALRM, too_slow)
        signal.alarm(10)
        try:
            return work()
        finally:
            signal.alarm(0)
            signal.signal(signal.SIGALRM, before)


class Draws:
    """Numbers that look drawn but are counted out: the same ones in each run and on each Python."""

    def __init__(self, number):
        self.number = number

    def below(self, limit):
        self.number = (self.number * 1103515245 + 12345) % 2 ** 31
        return (self.number >> 12) % limit


def all_rows(size):
    """The rows of all tables of a size, for small sizes."""
    lists = [[word for word in range(size) if mask >> word & 1] for mask in range(2 ** size)]
    found = [[]]
    for _ in range(size):
        found = [rows + [row] for rows in found for row in lists]
    return found


def all_tables(size):
    return [Table(rows) for rows in all_rows(size)]


def some_rows(size, count, seed=1):
    """Rows of different density."""
    draws = Draws(size * 1000 + seed)
    found = []
    for index in range(count):
        share = 1 + index % 5
        found.append([[out for out in range(size) if draws.below(6) < share] for _ in range(size)])
    return found


def some_tables(size, count, seed=1):
    return [Table(rows) for rows in some_rows(size, count, seed)]


def pair_list(rows):
    """The pairs of rows, worked out without the program."""
    return sorted({(told, out) for told, row in enumerate(rows) for out in row})


def rows_of_pairs(size, pairs):
    return [sorted({out for told, out in pairs if told == word}) for word in range(size)]


def behind(size, first, last):
    """The product of two sets of pairs, by its definition."""
    words = range(size)
    return {(a, c) for a in words for c in words if any((a, b) in first and (b, c) in last for b in words)}


def cast_of(size, said):
    """The cast in which, under each letter, somebody says what the rows of this letter tell."""
    return Cast(size, **{letter: Person(list(range(size)), rows) for letter, rows in said.items()})


def some_said(size, letters, seed, dense=2):
    """For each letter rows in which a word may say up to `dense` words."""
    draws = Draws(size * 1000 + len(letters) * 100 + seed)
    return {
        letter: [sorted({draws.below(size) for _ in range(1 + draws.below(dense))}) for _ in range(size)]
        for letter in letters
    }


def all_strings(signs, most):
    """All strings of the signs up to a length, the shorter ones first, each length in alphabetical order."""
    return ["".join(chosen) for length in range(most + 1) for chosen in itertools.product(sorted(signs), repeat=length)]


def some_patterns(letters, count, seed, longest=12):
    draws = Draws(seed)
    signs = list(letters) + ["?", "*", "*"]
    return ["".join(signs[draws.below(len(signs))] for _ in range(draws.below(longest + 1))) for _ in range(count)]


def open_ends(patterns):
    """What may be left of the patterns before the next person of a row, stars that stand for nobody left out."""
    return frozenset(pattern[at:] for pattern in patterns for at in range(len(pattern) + 1) if set(pattern[:at]) <= {"*"})


@functools.cache
def left_after(patterns, letter):
    """What may be left of the patterns behind this person."""
    kept = {pattern for pattern in patterns if pattern[:1] == "*"}
    return open_ends(kept | {pattern[1:] for pattern in patterns if pattern[:1] in (letter, "?")})


def outs_along(size, said, row):
    """For each word the set of the words that come out of it along the row, told on from person to person."""
    outs = [frozenset([word]) for word in range(size)]
    for letter in row:
        outs = [frozenset(out for told in some for out in said[letter][told]) for some in outs]
    return tuple(outs)


def table_along(size, said, row):
    return Table([sorted(some) for some in outs_along(size, said, row)])


def melts_along(size, said, row, first, second):
    outs = outs_along(size, said, row)
    return bool(outs[first] & outs[second])


def told_on(rows, words):
    return frozenset(out for word in words for out in rows[word])


def least_melt(said, pattern, first, second):
    """The least row in which the words melt, or None: all rows are tried, but none that repeats what another told."""
    start = (frozenset([first]), frozenset([second]), open_ends([pattern]))
    seen, rows = {start}, [("", *start)]
    while rows:
        longer = []
        for row, firsts, seconds, left in rows:
            for letter in sorted(said):
                after = left_after(left, letter)
                state = (told_on(said[letter], firsts), told_on(said[letter], seconds), after)
                if after and state not in seen:
                    if "" in after and state[0] & state[1]:
                        return row + letter
                    seen.add(state)
                    longer.append((row + letter, *state))
        rows = longer
    return None

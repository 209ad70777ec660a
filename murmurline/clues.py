"""Clues about one unknown table (points 23 to 25)."""

from murmurline.errors import UnknownClue
from murmurline.losing import first_missing
from murmurline.tables import Table, check_same_size, check_size


def _between(first, last, told, out):
    """The pairs (mid, next_mid) of words that lead from `told` to `out` if the unknown table has them."""
    enders = [word for word in range(last.size) if (word, out) in last]
    return [(mid, next_mid) for mid in first[told] for next_mid in enders]


class Clues:
    """Collects clues about a table x: each one is a triple of tables with first * x * last == whole."""

    def __init__(self, size):
        check_size(size)
        self.size = size
        self._added = 0
        # Later clues have greater numbers, so the clues stand here in ascending order of their numbers.
        self._kept = {}
        self._greatest = Table.full(size)

    def add(self, first, last, whole):
        """Keeps a clue and returns its number."""
        for table in (first, last, whole):
            check_same_size(self, table)
        number = self._added
        self._added += 1
        self._kept[number] = (first, last, whole)
        self._narrow(first, last, whole)
        return number

    def drop(self, number):
        """Drops the clue of this number."""
        if number not in self._kept:
            raise UnknownClue(number)
        del self._kept[number]
        self._greatest = Table.full(self.size)
        for first, last, whole in self._kept.values():
            self._narrow(first, last, whole)

    def _narrow(self, first, last, whole):
        """Makes the greatest table small enough for a clue."""
        self._greatest = self._greatest & (first >> (whole << last))

    def numbers(self):
        """The numbers of the kept clues in ascending order."""
        return list(self._kept)

    @property
    def greatest(self):
        """The greatest table x with first * x * last <= whole for all kept clues."""
        return self._greatest

    def fits(self, table):
        """True if the table solves all kept clues."""
        check_same_size(self, table)
        return all([first * table * last == whole for first, last, whole in self._kept.values()])

    def solve(self):
        """The greatest table that solves all kept clues, or None if there is none."""
        return self._greatest if self.fits(self._greatest) else None

    def refute(self):
        """Why no table solves all kept clues, or None if some table does."""
        for number in self._kept:
            first, last, whole = self._kept[number]
            pair = first_missing(whole, first * self._greatest * last)
            if pair is not None:
                told, out = pair
                blocks = [mids + self._obstacle(mids) for mids in _between(first, last, told, out)]
                return number, told, out, blocks
        return None

    def _obstacle(self, mids):
        """The first number, told and out of a clue whose `whole` lacks a pair to which these middle words lead."""
        step = Table.of(self.size, [mids])
        # A clue is found for each pair that the greatest table lacks, and others are not asked for.
        for number in self._kept:
            first, last, whole = self._kept[number]
            pair = first_missing(first * step * last, whole)
            if pair is not None:
                return (number,) + pair

    def holds(self, paper):
        """True if the paper shows that no table solves all kept clues."""
        number, told, out, blocks = paper
        if number not in self._kept:
            return False
        first, last, whole = self._kept[number]
        if (told, out) not in whole:
            return False
        between = _between(first, last, told, out)
        if not all([self._is_block(record, between) for record in blocks]):
            return False
        blocked = [record[:2] for record in blocks]
        return all([mids in blocked for mids in between])

    def _is_block(self, record, between):
        """True if the record tells why the unknown table lacks one of these pairs of middle words."""
        mid, next_mid, number, told, out = record
        if (mid, next_mid) not in between or number not in self._kept:
            return False
        first, last, whole = self._kept[number]
        return (told, mid) in first and (next_mid, out) in last and (told, out) not in whole

    def __len__(self):
        return len(self._kept)

    def __contains__(self, number):
        return number in self._kept

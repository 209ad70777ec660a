"""The lot of a cast: the tables of all its rows (points 26 and 27)."""

from murmurline.casts import check_row
from murmurline.errors import TooMany
from murmurline.tables import Table

MOST_TABLES = 400


class Lot:
    """The tables of all rows of a cast, each one under its name. It is never changed."""

    def __init__(self, cast, *, most=MOST_TABLES):
        # Nobody is informed in this copy, which later changes to the cast do not reach.
        self._cast = cast.informed("")
        self._names = []
        self._tables = []
        # Where a table stands, under what `str` shows of it, which tells tables of different sizes apart, too.
        self._places = {}
        # For each table the places of the tables to which one more person leads, under the person's letter.
        self._after = []
        self._place_for("", Table.identity(cast.size), most)
        self._gather(most)

    def _gather(self, most):
        """Finds all tables. The least row of each of them goes on from the name of a table that is found before."""
        letters = self._cast.letters()
        at = 0
        # The rows that are tried follow each other as rows are ordered, so that the first one names its table.
        while at < len(self._names):
            name, table = self._names[at], self._tables[at]
            after = {}
            for letter in letters:
                after[letter] = self._place_for(name + letter, table * self._cast[letter], most)
            self._after.append(after)
            at += 1

    def _place_for(self, row, table, most):
        """Where the table of the row stands; a new one is put at the end."""
        shown = str(table)
        if shown not in self._places:
            if len(self._names) >= most:
                raise TooMany(most)
            self._places[shown] = len(self._names)
            self._names.append(row)
            self._tables.append(table)
        return self._places[shown]

    def _led_on(self, place, row):
        """Where the table stands to which the row leads from the table at the place."""
        for letter in row:
            place = self._after[place][letter]
        return place

    def _place_of(self, row):
        """Where the table of a row stands that somebody else wrote down."""
        check_row(self._cast, row)
        return self._led_on(0, row)

    def names(self):
        """The names of all tables in order."""
        return list(self._names)

    def walk(self):
        """Yields the pairs of name and table in order."""
        for name, table in zip(self._names, self._tables):
            yield name, table

    def name_of(self, table):
        """The name of the table, or None if no row has it."""
        return self._names[self._places[str(table)]] if table in self else None

    def least(self, row):
        """The least row that is alike to the row."""
        return self._names[self._place_of(row)]

    def search(self, wish):
        """The name of the first table for which the wish is True, or None."""
        for name, table in zip(self._names, self._tables):
            if wish(table):
                return name
        return None

    def behind(self, row, other):
        """The least row behind the row that makes it alike to the other one, or None."""
        start, goal = self._place_of(row), self._place_of(other)
        # A row may be exchanged for the name of its table, so the least one is a name.
        for name in self._names:
            if self._led_on(start, name) == goal:
                return name
        return None

    def ahead(self, row, other):
        """The least row ahead of the row that makes it alike to the other one, or None."""
        least = self.least(row)
        goal = self._place_of(other)
        for place, name in enumerate(self._names):
            if self._led_on(place, least) == goal:
                return name
        return None

    def reached(self, row):
        """The names of all tables that the row has with other rows behind it, in order."""
        start = self._place_of(row)
        places = {self._led_on(start, name): True for name in self._names}
        return [name for place, name in enumerate(self._names) if place in places]

    def rhythm(self, row):
        """How many copies of the row lead to the first table that comes again, and after how many more it does."""
        least = self.least(row)
        copies = {}
        place = 0
        while place not in copies:
            copies[place] = len(copies)
            place = self._led_on(place, least)
        return copies[place], len(copies) - copies[place]

    def __len__(self):
        return len(self._names)

    def __contains__(self, table):
        return str(table) in self._places

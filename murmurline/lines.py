"""A line: one row of a cast that is built step by step and that keeps a book safe (points 39 to 43)."""

from murmurline.apart import melted_pair
from murmurline.errors import (
    BadCount, BadPlace, Melted, MurmurError, NothingToRedo, NothingToUndo, Refused, TooLong, UnknownPerson,
)
from murmurline.tables import Table, ascending, check_words

LINE_LIMIT = 40
GREATEST_LIMIT = 60


class Line:
    """A row of a cast in which no two words of a book melt, with its history."""

    def __init__(self, cast, *, book=(), limit=LINE_LIMIT):
        check_words(book, cast.size)
        # Nobody is informed in this copy, which later changes to the cast do not reach.
        self._cast = cast.informed("")
        self._book = ascending(book, cast.size)
        # All rows that undo and redo lead to, each with its table, and the place of the present one among them.
        self._states = [("", Table.identity(cast.size))]
        self._now = 0
        self.change_limit(limit)

    @property
    def row(self):
        """The row."""
        return self._states[self._now][0]

    @property
    def table(self):
        """The table of the row."""
        return self._states[self._now][1]

    @property
    def past(self):
        """How many changes can be taken back."""
        return self._now

    @property
    def future(self):
        """How many changes that were taken back can be made again."""
        return len(self._states) - self._now - 1

    @property
    def limit(self):
        """The number of letters from which on nobody can be added."""
        return self._limit

    @limit.setter
    def limit(self, value):
        self.change_limit(value)

    def change_limit(self, limit):
        """Sets the limit."""
        if not 0 <= limit <= GREATEST_LIMIT:
            raise BadCount(limit)
        if len(self) > limit:
            raise TooLong(limit)
        self._limit = limit

    def out(self, word):
        """The words that can come out of the word, in ascending order."""
        return self.table[word]

    def _checked(self, row):
        """The row with its table, unless two words of the book melt in it."""
        table = self._cast.through(row)
        pair = melted_pair(table, self._book)
        if pair is not None:
            first, second = pair
            raise Melted(first, second)
        return row, table

    def _longer(self, row, at, letter):
        """The row with one more person ahead of the place, with its table, unless this is refused."""
        if letter not in self._cast:
            raise UnknownPerson(letter, 0)
        if len(row) >= self._limit:
            raise TooLong(self._limit)
        return self._checked(row[:at] + letter + row[at:])

    def _keep(self, state):
        """Makes a row with its table the present one, as one change."""
        del self._states[self._now + 1:]
        self._states.append(state)
        self._now += 1

    def add(self, letter):
        """Adds the person at the end."""
        self._keep(self._longer(self.row, len(self), letter))

    def insert(self, at, letter):
        """Inserts the person ahead of the place."""
        if not 0 <= at <= len(self):
            raise BadPlace(at)
        self._keep(self._longer(self.row, at, letter))

    def take(self, at):
        """Removes the letter at the place."""
        if not 0 <= at < len(self):
            raise BadPlace(at)
        self._keep(self._checked(self.row[:at] + self.row[at + 1:]))

    def swap(self, at):
        """Exchanges the letter at the place and the next one."""
        if not 0 <= at < len(self) - 1:
            raise BadPlace(at)
        row = self.row
        self._keep(self._checked(row[:at] + row[at + 1] + row[at] + row[at + 2:]))

    def undo(self):
        """Takes back the latest change."""
        if self.past == 0:
            raise NothingToUndo()
        self._now -= 1

    def redo(self):
        """Makes the change again that was taken back last."""
        if self.future == 0:
            raise NothingToRedo()
        self._now += 1

    def twin(self):
        """An independent line that is like this one."""
        line = Line(self._cast, book=self._book)
        line.become(self)
        return line

    def become(self, other):
        """Takes over row, history, and limit of another line with the same cast and book."""
        self._states = list(other._states)
        self._now = other._now
        self._limit = other._limit

    def __len__(self):
        return len(self.row)

    def __iadd__(self, letters):
        state = self._states[self._now]
        for letter in letters:
            row = state[0]
            state = self._longer(row, len(row), letter)
        if letters:
            self._keep(state)
        return self


def _carry_out(line, deed):
    """Carries out one deed."""
    name = deed[0]
    if name == "add":
        line.add(deed[1])
    elif name == "insert":
        line.insert(deed[1], deed[2])
    elif name == "take":
        line.take(deed[1])
    elif name == "swap":
        line.swap(deed[1])
    elif name == "undo":
        line.undo()
    elif name == "redo":
        line.redo()
    elif name == "limit":
        line.change_limit(deed[1])


def attempt(line, deeds):
    """Carries out all deeds or none of them, and returns their number."""
    trial = line.twin()
    for index, deed in enumerate(deeds):
        try:
            _carry_out(trial, deed)
        except MurmurError as error:
            raise Refused(index) from error
    line.become(trial)
    return len(deeds)

"""Casts: people of one size, each under a letter (points 15 to 17)."""

from murmurline.errors import BadLetter, TooMany, UnknownPerson
from murmurline.tables import Table, check_same_size, check_size, joined

MOST_PEOPLE = 8


def is_letter(letter):
    """True if the string is one of the letters a to z."""
    return len(letter) == 1 and "a" <= letter <= "z"


def check_row(cast, row):
    """Raises UnknownPerson for the first letter of the row that nobody in the cast has."""
    for place, letter in enumerate(row):
        if letter not in cast:
            raise UnknownPerson(letter, place)


class Cast:
    """People of one size under their letters."""

    def __init__(self, size, **people):
        check_size(size)
        self.size = size
        # A person never changes, and a cast is asked for nothing but tables.
        self._tables = {}
        for letter in sorted(people, key=str):
            self.put(letter, people[letter])

    def put(self, letter, person):
        """Adds the person under the letter, or replaces the one who has the letter."""
        if not is_letter(letter):
            raise BadLetter(letter)
        check_same_size(self, person)
        if letter not in self._tables and len(self._tables) >= MOST_PEOPLE:
            raise TooMany(MOST_PEOPLE)
        self._tables[letter] = person.table

    def leave(self, letter):
        """Removes the person who has the letter."""
        self._check_present(letter)
        del self._tables[letter]

    def letters(self):
        """The letters of the people in ascending order."""
        return sorted(self._tables, key=str)

    def through(self, row):
        """The table of a row: the product of the tables of its people."""
        check_row(self, row)
        tables = [self._tables[letter] for letter in row]
        return joined(*tables, size=self.size)

    def informed(self, letters):
        """A new cast in which the people of these letters pass on every word unchanged."""
        check_row(self, letters)
        cast = Cast(self.size)
        unchanged = Table.identity(self.size)
        for letter in self.letters():
            cast._tables[letter] = unchanged if letter in letters else self._tables[letter]
        return cast

    def _check_present(self, letter):
        if letter not in self._tables:
            raise UnknownPerson(letter, 0)

    def __getitem__(self, letter):
        self._check_present(letter)
        return self._tables[letter]

    def __setitem__(self, letter, person):
        self.put(letter, person)

    def __contains__(self, letter):
        return letter in self._tables

    def __len__(self):
        return len(self._tables)

    def __iter__(self):
        raise TypeError("a cast is not iterated over: ask for its letters")

"""Written forms of casts and lots (points 44 and 45)."""

from murmurline.casts import MOST_PEOPLE, Cast, is_letter
from murmurline.errors import BadLine
from murmurline.people import Person
from murmurline.tables import Table


def format_cast(cast):
    """The written form of a cast."""
    people = [f"{letter}: {cast[letter]}" for letter in cast.letters()]
    return "\n".join([f"size {cast.size}"] + people)


def _read_size(line):
    """The size that the line tells, or None if it tells none."""
    for size in range(1, Table.MOST + 1):
        if line == f"size {size}":
            return size
    return None


def _read_table(text, size):
    """The total table of the size that `str` shows as this text, or None if there is none."""
    # What the entries contain beside the right words comes out when the text is compared.
    rows = [[out for out in range(size) if str(out) in entry[2:].split(",")] for entry in text.split(" ")]
    if len(rows) != size:
        return None
    table = Table(rows)
    return table if table.total and str(table) == text else None


def parse_cast(text):
    """A cast that has this written form."""
    lines = text.split("\n")
    size = _read_size(lines[0])
    if size is None:
        raise BadLine(1)
    cast = Cast(size)
    before = ""
    for number, line in enumerate(lines[1:], start=2):
        letter = line[:1]
        table = _read_table(line[3:], size)
        if not is_letter(letter) or letter <= before or line[1:3] != ": " or table is None:
            raise BadLine(number)
        if len(cast) == MOST_PEOPLE:
            raise BadLine(number)
        # Somebody who hears every word as it is says what the table tells.
        cast.put(letter, Person(list(range(size)), table.rows()))
        before = letter
    return cast


def _lot_line(index, name, table):
    """The line of one table of a lot."""
    shown = name or "-"
    return f"{index:>4} {shown:<8} {len(table):>3}"


def lot_lines(lot):
    """One line for each table of the lot in order."""
    return [_lot_line(index, name, table) for index, (name, table) in enumerate(lot.walk())]

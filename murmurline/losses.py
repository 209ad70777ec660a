"""Lost people: what is left of a row if some of its people are missing (point 35)."""

from murmurline.apart import check_different, melted_pair
from murmurline.casts import check_row
from murmurline.choosing import check_places, fewest_first, without
from murmurline.errors import BadCount
from murmurline.tables import check_words


def subrows(row, lost):
    """Yields the different rows that are left if so many letters are removed, in alphabetical order."""
    length = len(row) - lost
    backwards = sorted({letter: True for letter in row}, key=str, reverse=True)
    # The beginnings still to go on from, the alphabetically first one last, each with the place behind the first
    # letters of the row that make it up. So no beginning is found twice.
    begun = [("", 0)] if 0 <= lost <= len(row) else []
    while begun:
        found, start = begun.pop()
        if len(found) == length:
            yield found
        else:
            # Behind a letter that is kept there must be as many as are still missing then.
            end = len(row) - (length - len(found) - 1)
            places = [row.find(letter, start, end) for letter in backwards]
            begun.extend([(found + row[place], place + 1) for place in places if place >= 0])


def _fewest_lost(cast, row, words):
    """The fewest places of the row whose letters are removed if two of the words melt in what is left, or None."""
    for places in fewest_first(len(row)):
        if melted_pair(cast.through(without(row, places)), words) is not None:
            return places
    return None


def lost_clash(cast, row, most, first, second):
    """The fewest places whose letters are removed, at most so many, if the two words melt then, or None."""
    check_row(cast, row)
    if most < 0:
        raise BadCount(most)
    check_different(first, second, cast.size)
    check_places(row)
    places = _fewest_lost(cast, row, [first, second])
    return None if places is None or len(places) > most else places


def most_lost(cast, row, book):
    """The greatest number of letters that may be removed, whichever they are, without two words melting."""
    check_row(cast, row)
    check_words(book, cast.size)
    check_places(row)
    places = _fewest_lost(cast, row, book)
    return len(row) if places is None else len(places) - 1

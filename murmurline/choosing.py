"""Choosing places of a row, the fewest first (used for points 30 and 35)."""

from murmurline.errors import TooMany

MOST_PLACES = 8


def check_places(row):
    """Raises TooMany if the row has too many letters for trying all choices of its places."""
    if len(row) > MOST_PLACES:
        raise TooMany(MOST_PLACES)


def fewest_first(count):
    """All ascending lists of numbers below the count: the shorter ones first, each length in the order of lists."""
    found = []
    longest = [[]]
    while longest:
        found.extend(longest)
        longest = [chosen + [at] for chosen in longest for at in range(count) if not chosen or at > chosen[-1]]
    return found


def without(row, places):
    """The row that is left if the letters at these places are removed."""
    return "".join([letter for place, letter in enumerate(row) if place not in places])

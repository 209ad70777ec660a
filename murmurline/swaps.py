"""The order of people: who can change places, and what that leads to (points 32 to 34)."""

from murmurline.casts import check_row
from murmurline.errors import TooMany

MOST_IN_ORDERS = 6


def swappable(cast):
    """The pairs of letters of people who can change places, in ascending order."""
    letters = cast.letters()
    pairs = [(a, b) for a in letters for b in letters if a < b]
    return [(a, b) for a, b in pairs if cast[a] * cast[b] == cast[b] * cast[a]]


def _tied_letters(cast):
    """For each letter the other letters, in ascending order, of the people who cannot change places with it."""
    letters = cast.letters()
    free = {pair: True for pair in swappable(cast)}
    return {a: [b for b in letters if a != b and (a, b) not in free and (b, a) not in free] for a in letters}


def _place_to_front(rest, letter, tied):
    """The place of the first such letter if swaps can bring it to the front of the row, otherwise None."""
    place = rest.find(letter)
    if place < 0 or any([other in rest[:place] for other in tied[letter]]):
        return None
    return place


def _without_first(rest, letter):
    """The row without the first such letter."""
    return rest.replace(letter, "", 1)


def least_order(cast, row):
    """The alphabetically first row that can be reached by swaps."""
    check_row(cast, row)
    tied = _tied_letters(cast)
    order = []
    rest = row
    while rest:
        leaders = [letter for letter in cast.letters() if _place_to_front(rest, letter, tied) is not None]
        order.append(leaders[0])
        rest = _without_first(rest, leaders[0])
    return "".join(order)


def swap_path(cast, row, other):
    """The places of the fewest swaps that lead from the row to the other one, or None if none do."""
    check_row(cast, row)
    check_row(cast, other)
    tied = _tied_letters(cast)
    path = []
    rest = row
    for start, letter in enumerate(other):
        place = _place_to_front(rest, letter, tied)
        if place is None:
            return None
        # Each of these swaps is of two letters that stand in different orders in the two rows, so it is needed.
        path.extend([start + at for at in range(place - 1, -1, -1)])
        rest = _without_first(rest, letter)
    return None if rest else path


def _left_of(row, letters):
    """The row with all other letters left out."""
    return "".join([letter for letter in row if letter in letters])


def swap_clash(cast, row, other):
    """Why no swaps lead from the row to the other one, or None if some do."""
    check_row(cast, row)
    check_row(cast, other)
    for letter in cast.letters():
        if row.count(letter) != other.count(letter):
            return "count", letter
    tied = _tied_letters(cast)
    for a in cast.letters():
        for b in tied[a]:
            if a < b and _left_of(row, a + b) != _left_of(other, a + b):
                return "order", a + b
    return None


def _alphabetical(letters):
    """The alphabetically first string of the letters."""
    return "".join(sorted(letters, key=str))


def _next_order(order):
    """The alphabetically next string of the same letters, or None if there is none."""
    at = len(order) - 2
    while at >= 0 and order[at] >= order[at + 1]:
        at -= 1
    if at < 0:
        return None
    # The letters behind this place fall, so turned round they are the alphabetically first string of them.
    tail = order[at + 1:][::-1]
    later = [place for place, letter in enumerate(tail) if letter > order[at]][0]
    return order[:at] + tail[later] + tail[:later] + order[at] + tail[later + 1:]


def orders(row):
    """Yields all different strings of the letters of the row in alphabetical order."""
    order = _alphabetical(row)
    while order is not None:
        yield order
        order = _next_order(order)


def order_matters(cast, row):
    """The first order of the letters and the first one that is not alike to it, or None if all are alike."""
    check_row(cast, row)
    if len(row) > MOST_IN_ORDERS:
        raise TooMany(MOST_IN_ORDERS)
    first = _alphabetical(row)
    table = cast.through(first)
    for order in orders(row):
        if not cast.through(order) == table:
            return first, order
    return None

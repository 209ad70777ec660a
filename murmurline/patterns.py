"""Patterns, which describe rows whose people are partly unknown (point 18)."""

from murmurline.casts import check_row
from murmurline.errors import BadPattern
from murmurline.tables import Table, check_words, joined

ANYONE = "?"
ANY_ROW = "*"
MOST_SIGNS = 12


def check_pattern(cast, pattern):
    """Raises BadPattern for the first place at which the pattern is wrong."""
    for place, sign in enumerate(pattern[:MOST_SIGNS]):
        if sign not in (ANYONE, ANY_ROW) and sign not in cast:
            raise BadPattern(place)
    if len(pattern) > MOST_SIGNS:
        raise BadPattern(MOST_SIGNS)


def past_stars(pattern, place):
    """The place, and the places behind it at which a row stands as well because stars may stand for nobody."""
    found = [place]
    while pattern[place:place + 1] == ANY_ROW:
        place += 1
        found.append(place)
    return found


def place_after(pattern, place, letter):
    """The place at which a row stands after this person, if it stood at the place before, or None.

    That it stands at the places of `past_stars` as well is left to the caller.
    """
    sign = pattern[place:place + 1]
    if sign == ANY_ROW:
        return place
    return place + 1 if sign in (letter, ANYONE) else None


def _places_after(pattern, places, letter):
    """All places, in ascending order, at which a row can stand after this person, if it stood at one of these."""
    found = []
    for place in places:
        after = place_after(pattern, place, letter)
        # The places ascend: one that is found already lies past the stars behind an earlier one, as do those past
        # its own stars.
        if after is not None and after not in found:
            found += past_stars(pattern, after)
    return found


def matches(cast, pattern, row):
    """True if the row matches the pattern."""
    check_pattern(cast, pattern)
    check_row(cast, row)
    places = past_stars(pattern, 0)
    for letter in row:
        places = _places_after(pattern, places, letter)
    return len(pattern) in places


def _can_end(pattern, places, left):
    """True if so many people more can lead a row from one of the places to the end of the pattern."""
    rests = [pattern[place:] for place in places]
    return any([_has_row(rest, left) for rest in rests])


def _has_row(pattern, length):
    """True if some row of this length matches, where people for it can be found."""
    people = len(pattern) - pattern.count(ANY_ROW)
    return length == people or (length > people and ANY_ROW in pattern)


def rows_of(cast, pattern, length):
    """Yields all rows of this length that match the pattern, in alphabetical order."""
    check_pattern(cast, pattern)
    backwards = cast.letters()[::-1]
    start = past_stars(pattern, 0)
    # The beginnings still to go on from, the alphabetically first one last. Only those are kept that have an end.
    begun = [("", start)] if _can_end(pattern, start, length) else []
    while begun:
        row, places = begun.pop()
        left = length - len(row)
        if left == 0:
            yield row
        else:
            for letter in backwards:
                after = _places_after(pattern, places, letter)
                if _can_end(pattern, after, left - 1):
                    begun.append((row + letter, after))


def any_person(cast):
    """The table of what can come out of which word through some person of the cast."""
    said = Table.empty(cast.size)
    for letter in cast.letters():
        said = said | cast[letter]
    return said


def _through_sign(cast, sign):
    """The table of what can come out of which word through the rows that the sign stands for."""
    if sign == ANYONE:
        return any_person(cast)
    if sign == ANY_ROW:
        # A word that comes out of another one at all does so within as many steps as there are words.
        return (any_person(cast) | Table.identity(cast.size)).repeated(cast.size)
    return cast[sign]


def spread(cast, pattern):
    """The table of what can come out of which word through some row that matches the pattern."""
    check_pattern(cast, pattern)
    tables = [_through_sign(cast, sign) for sign in pattern]
    return joined(*tables, size=cast.size)


def came_from(cast, pattern, outs):
    """The words out of which each of these words can come through some row that matches the pattern."""
    whole = spread(cast, pattern)
    check_words(outs, cast.size)
    return [word for word in range(cast.size) if all([(word, out) in whole for out in outs])]

"""Books: lists of words that are agreed upon, and the people who must be informed of them (points 28 to 31)."""

from murmurline.apart import apart_words, find_melt, first_pair, melted_pair, melting_words
from murmurline.casts import check_row
from murmurline.choosing import check_places, fewest_first, without
from murmurline.errors import TooMany
from murmurline.patterns import check_pattern
from murmurline.tables import ascending, check_words

MOST_WORDS_FOR_PAIRS = 5


def _most_groups(entries, apart):
    """A number of entries that no list of them exceeds in which each two stay apart.

    The entries are put into groups in which no two stay apart, so that a list has at most one of each group.
    """
    groups = []
    for entry in entries:
        homes = [group for group in groups if not any([other in apart[entry] for other in group])]
        if homes:
            homes[0].append(entry)
        else:
            groups.append([entry])
    return len(groups)


def _longest_of(chosen, rest, apart, best):
    """The first of the longest lists that go on from `chosen` with entries of `rest`, if it is longer than `best`.

    All entries of `rest` stay apart from the chosen ones. If there is no longer list, this is `best` itself.
    """
    if len(chosen) > len(best):
        best = chosen
    for at, entry in enumerate(rest):
        if len(chosen) + _most_groups(rest[at:], apart) <= len(best):
            break
        fitting = [other for other in rest[at + 1:] if other in apart[entry]]
        best = _longest_of(chosen + [entry], fitting, apart, best)
    return best


def greatest_book(cast, pattern):
    """The safe book with the most words; among several the first one in the order of lists."""
    apart = apart_words(cast, pattern)
    words = list(range(cast.size))
    return _longest_of([], words, {word: {other: True for other in apart[word]} for word in words}, [])


def _check_question(cast, pattern, book):
    """Raises BadPattern, or UnknownWord for the first integer of the book that is not a word."""
    check_pattern(cast, pattern)
    check_words(book, cast.size)


def first_clash(cast, pattern, book, *, informed=""):
    """The first two words of the book that melt, and the least row in which they do so, or None."""
    _check_question(cast, pattern, book)
    told = cast.informed(informed)
    pair = first_pair(book, melting_words(told, pattern))
    if pair is None:
        return None
    first, second = pair
    return first, second, find_melt(told, pattern, first, second)[0]


def clashes(cast, pattern, book):
    """For each word that cannot be added to the book, the first word of the book that speaks against it, and a row."""
    _check_question(cast, pattern, book)
    melting = melting_words(cast, pattern)
    found = []
    for word in range(cast.size):
        members = [member for member in ascending(book, cast.size) if (word, member) in melting]
        if word not in book and members:
            found.append((word, members[0], find_melt(cast, pattern, word, members[0])[0]))
    return found


def fewest_informed(cast, pattern, book):
    """The letters of the fewest people who must be informed so that the book is safe."""
    _check_question(cast, pattern, book)
    # If everybody is informed, no two words melt, so one of the choices is returned.
    for places in fewest_first(len(cast)):
        informed = "".join([cast.letters()[place] for place in places])
        if first_pair(book, melting_words(cast.informed(informed), pattern)) is None:
            return informed


def fewest_places(cast, row, book):
    """The fewest places of the row at which every word must be passed on so that the book is safe in it."""
    check_row(cast, row)
    check_words(book, cast.size)
    check_places(row)
    # Somebody who passes on every word might as well be missing, and in the empty row no two words melt.
    for places in fewest_first(len(row)):
        if melted_pair(cast.through(without(row, places)), book) is None:
            return places


def _pairs_apart(one, other, apart):
    """True if the two entries of a book of pairs stay apart."""
    return any([(mine, others) in apart for mine, others in zip(one, other)])


def greatest_pairs(cast, pattern):
    """The book of pairs with the most entries; among several the first one in the order of lists."""
    apart = apart_words(cast, pattern)
    if cast.size > MOST_WORDS_FOR_PAIRS:
        raise TooMany(MOST_WORDS_FOR_PAIRS)
    words = list(range(cast.size))
    entries = [(first, second) for first in words for second in words]
    others = {one: {other: True for other in entries if _pairs_apart(one, other, apart)} for one in entries}
    return _longest_of([], entries, others, [])

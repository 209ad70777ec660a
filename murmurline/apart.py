"""Words that melt in some row that matches a pattern, and words that stay apart (points 19 and 20).

A state (place, one, other) stands for the beginnings of rows that lead to this place of a pattern, and out of
which the word `one` comes for the first word and `other` for the second one. Its triple has the smaller one of
the two words first.
"""

from murmurline.errors import SameWord
from murmurline.patterns import ANY_ROW, ANYONE, check_pattern, matches, past_stars, place_after
from murmurline.tables import Table, ascending, check_words


def check_different(first, second, size):
    """Raises UnknownWord or SameWord if the two integers are not different words of the size."""
    check_words([first, second], size)
    if first == second:
        raise SameWord(first)


def _check_question(cast, pattern, first, second):
    """Raises the errors of point 19."""
    check_pattern(cast, pattern)
    check_different(first, second, cast.size)


def _told_on(table, pattern, state, letter):
    """The states that the person with this letter and table leads to, apart from those past stars."""
    place, one, other = state
    after = place_after(pattern, place, letter)
    if after is None:
        return []
    return [(after, mine, others) for mine in table[one] for others in table[other]]


def _steps(table, pattern, states, letter):
    """All states that this person leads to, each with one of the states that it can follow."""
    found = {}
    for state in states:
        for after, one, other in _told_on(table, pattern, state, letter):
            # The states past the stars behind a state that was found are found, too.
            if (after, one, other) not in found:
                for passed in past_stars(pattern, after):
                    found[(passed, one, other)] = state
    return found


def _reached(cast, pattern, first, second):
    """All states that some beginning of a row leads to, in the order of the least rows that do so.

    Each state has the state before it and the last letter of this row, and None if the row is empty.
    """
    before = {(place, first, second): None for place in past_stars(pattern, 0)}
    # Each group has the states of one row, and the rows of a length follow each other in alphabetical order. So
    # the row that leads to a state first is the least one.
    groups = [list(before)]
    while groups:
        longer = []
        for states in groups:
            for letter in cast.letters():
                steps = _steps(cast[letter], pattern, states, letter)
                fresh = [state for state in steps if state not in before]
                for state in fresh:
                    before[state] = (steps[state], letter)
                longer.append(fresh)
        groups = [fresh for fresh in longer if fresh]
    return before


def _way_to(before, state):
    """The least row that leads to a state, and the trails of both words."""
    letters, states = [], [state]
    while before[states[-1]] is not None:
        earlier, letter = before[states[-1]]
        letters.append(letter)
        states.append(earlier)
    states = states[::-1]
    return "".join(letters[::-1]), [one for _, one, _ in states], [other for _, _, other in states]


def find_melt(cast, pattern, first, second):
    """The least row in which the words melt, with a trail for each of them, or None if they stay apart."""
    _check_question(cast, pattern, first, second)
    before = _reached(cast, pattern, first, second)
    for state in before:
        place, one, other = state
        if place == len(pattern) and one == other:
            return _way_to(before, state)
    return None


def find_book(cast, pattern, first, second):
    """The closed list, which shows that the words stay apart, or None if they melt."""
    _check_question(cast, pattern, first, second)
    states = _reached(cast, pattern, first, second)
    # Wherever the two words have become one, the row goes on to a melt: everybody says something.
    if any([one == other for _, one, other in states]):
        return None
    triples = {_triple(state): True for state in states}
    words = list(range(cast.size))
    # Counting through all triples puts those that were found into ascending order.
    every = [(place, low, high) for place in range(len(pattern) + 1) for low in words for high in words]
    return [triple for triple in every if triple in triples]


def _triple(state):
    """The triple of a state."""
    place, one, other = state
    return (place, one, other) if one < other else (place, other, one)


def _is_trail(cast, row, word, trail):
    """True if the list is a trail of the word along the row."""
    if len(trail) != len(row) + 1 or trail[0] != word:
        return False
    return all([(told, out) in cast[letter] for letter, told, out in zip(row, trail, trail[1:])])


def melt_holds(cast, pattern, first, second, paper):
    """True if the paper shows a row that matches the pattern and in which the words melt."""
    _check_question(cast, pattern, first, second)
    row, first_trail, second_trail = paper
    if not all([letter in cast for letter in row]) or not matches(cast, pattern, row):
        return False
    if not _is_trail(cast, row, first, first_trail) or not _is_trail(cast, row, second, second_trail):
        return False
    return first_trail[-1] == second_trail[-1]


def _is_triple(cast, pattern, triple):
    """True if the triple consists of a place of the pattern and two words in ascending order."""
    place, low, high = triple
    return 0 <= place <= len(pattern) and 0 <= low < high < cast.size


def _needed(cast, pattern, triple):
    """What a closed list with this triple has to contain; where words melt, this is no triple of a closed list."""
    place, low, high = triple
    found = [(passed, low, high) for passed in past_stars(pattern, place)]
    for letter in cast.letters():
        found += [_triple(state) for state in _told_on(cast[letter], pattern, triple, letter)]
    return found


def book_holds(cast, pattern, first, second, book):
    """True if the list of triples is closed, so that it shows that the words stay apart."""
    _check_question(cast, pattern, first, second)
    if not all([_is_triple(cast, pattern, triple) for triple in book]):
        return False
    listed = {triple: True for triple in book}
    if _triple((0, first, second)) not in listed:
        return False
    return all([needed in listed for triple in listed for needed in _needed(cast, pattern, triple)])


def _before_person(people, melting):
    """The pairs of words that one of these people, given as table and turned table, can turn into one of the table."""
    found = Table.empty(melting.size)
    for table, turned in people:
        found = found | table * melting * turned
    return found


def _before_anybody(people, melting):
    """The pairs of words that some row of these people can turn into a pair of the table."""
    found = _before_person(people, melting)
    while not found <= melting:
        melting = melting | found
        found = _before_person(people, melting)
    return melting


def _different_tables(cast):
    """The different tables of the people: of informed people, for example, there may be many with the same table."""
    tables = []
    for letter in cast.letters():
        if cast[letter] not in tables:
            tables.append(cast[letter])
    return tables


def melting_words(cast, pattern):
    """The table whose pairs of different words are those that melt in some row that matches the pattern."""
    check_pattern(cast, pattern)
    everybody = [(table, ~table) for table in _different_tables(cast)]
    melting = Table.identity(cast.size)
    for sign in pattern[::-1]:
        # Where all words melt, they do so as well with anybody ahead of them, as everybody says something.
        if len(melting) == cast.size * cast.size:
            break
        if sign == ANY_ROW:
            melting = _before_anybody(everybody, melting)
        else:
            people = everybody if sign == ANYONE else [(cast[sign], ~cast[sign])]
            melting = _before_person(people, melting)
    return melting


def apart_words(cast, pattern):
    """The table of the pairs of different words that stay apart for the pattern."""
    melting = melting_words(cast, pattern)
    words = list(range(cast.size))
    return Table.of(cast.size, [(a, b) for a in words for b in words if a != b and (a, b) not in melting])


def first_pair(words, table):
    """The first pair of the table, in ascending order, of words low < high of the list, or None."""
    listed = ascending(words, table.size)
    pairs = [(low, high) for low in listed for high in listed if low < high and (low, high) in table]
    return pairs[0] if pairs else None


def melted_pair(table, words):
    """The first pair low < high of words of the list out of which the same word can come, or None."""
    return first_pair(words, table * ~table)

"""Saying it back: what goes unnoticed if a word comes back along a second row (points 36 and 37)."""

from murmurline.patterns import ANY_ROW, any_person, spread


def undetected(there, back):
    """The pairs (sent, got) of different words that the sender cannot tell from a word that arrived as it was."""
    return [(sent, got) for sent, got in there & ~back if sent != got]


def _rings(cast):
    """The pairs of different words of which each one can come out of the other one through some row."""
    everywhere = spread(cast, ANY_ROW)
    return undetected(everywhere, everywhere)


def ranks(cast):
    """The smallest ranks of the words so that only a word itself or words of greater rank are said, or None."""
    if _rings(cast):
        return None
    said = any_person(cast)
    found = [0 for _ in range(cast.size)]
    # Nobody leads back to a word that was left, so there are fewer steps in a row than words.
    for _ in range(cast.size):
        for told, out in said:
            if told != out and found[out] <= found[told]:
                found[out] = found[told] + 1
    return found


def _least_rows(cast, word):
    """The least row for each of the words that can come out of the word through some row."""
    found = {word: ""}
    # Each group has a row and the words of which it is the least row. The rows of a length follow each other in
    # alphabetical order, so the row that leads to a word first is the least one.
    groups = [("", [word])]
    while groups:
        longer = []
        for row, words in groups:
            for letter in cast.letters():
                fresh = [out for out in cast[letter](words) if out not in found]
                for out in fresh:
                    found[out] = row + letter
                longer.append((row + letter, fresh))
        groups = [group for group in longer if group[1]]
    return found


def ring(cast):
    """The first two words that can come out of each other, with the least rows there and back, or None."""
    pairs = _rings(cast)
    if not pairs:
        return None
    sent, got = pairs[0]
    return sent, got, _least_rows(cast, sent)[got], _least_rows(cast, got)[sent]

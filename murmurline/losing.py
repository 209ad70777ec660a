"""What can stand behind or ahead of a table, and which words can be told back (points 21 and 22)."""

from murmurline.tables import Table, ascending, check_same_size, check_words


def first_missing(whole, found):
    """The first pair of the table `whole`, in ascending order, that is not in the table `found`, or None."""
    for pair in whole:
        if pair not in found:
            return pair
    return None


def further(first, whole):
    """The greatest table x with first * x == whole, or None if there is none."""
    after = first >> whole
    return after if first * after == whole else None


def earlier(last, whole):
    """The greatest table x with x * last == whole, or None if there is none."""
    # The operator would name the two sizes the other way round.
    check_same_size(last, whole)
    ahead = whole << last
    return ahead if ahead * last == whole else None


def lost_pair(first, whole):
    """Why no table behind `first` leads to `whole`, or None if there is such a table."""
    pair = first_missing(whole, first * (first >> whole))
    if pair is None:
        return None
    told, out = pair
    return told, out, [(mid, _other_sender(first, whole, mid, out)) for mid in first[told]]


def _other_sender(first, whole, mid, out):
    """The smallest word that leads to the middle word, but must not lead to the last one."""
    senders = [word for word in range(first.size) if (word, mid) in first]
    return [word for word in senders if (word, out) not in whole][0]


def lost_holds(first, whole, paper):
    """True if the paper shows that no table behind `first` leads to `whole`."""
    check_same_size(first, whole)
    told, out, blocks = paper
    if (told, out) not in whole:
        return False
    for mid, other in blocks:
        if (told, mid) not in first or (other, mid) not in first or (other, out) in whole:
            return False
    blocked = [mid for mid, _ in blocks]
    return all([mid in blocked for mid in first[told]])


def told_back(table, book):
    """The greatest table that tells each word of the book back for sure, or None if there is none."""
    check_words(book, table.size)
    words = ascending(book, table.size)
    if not all([table[word] for word in words]):
        return None
    # For each middle word, the words of the book out of which it can come.
    senders = [[word for word in words if (word, mid) in table] for mid in range(table.size)]
    if any([len(some) > 1 for some in senders]):
        return None
    return Table([some or list(range(table.size)) for some in senders])

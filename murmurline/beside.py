"""Rows side by side, which are all told the same word (point 38)."""

from murmurline.apart import check_different
from murmurline.casts import check_row
from murmurline.errors import BadCount
from murmurline.tables import check_words


def _check_rows(cast, rows):
    """Raises UnknownPerson for the first letter of nobody in the first row that has one."""
    for row in rows:
        check_row(cast, row)


def candidates(cast, rows, outs):
    """The words that may have been told to all rows if these words come out of them."""
    _check_rows(cast, rows)
    if len(outs) != len(rows):
        raise BadCount(len(outs))
    check_words(outs, cast.size)
    tables = [cast.through(row) for row in rows]
    return [word for word in range(cast.size) if all([(word, out) in table for table, out in zip(tables, outs)])]


def common_outs(cast, rows, first, second):
    """For each row the smallest word that can come out of both words, or None if some row tells them apart."""
    _check_rows(cast, rows)
    check_different(first, second, cast.size)
    found = []
    for row in rows:
        table = cast.through(row)
        common = [out for out in table[first] if out in table[second]]
        if not common:
            return None
        found.append(common[0])
    return found

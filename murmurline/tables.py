"""Tables, which tell for each word the words that can come out of it (points 4 to 12)."""

from murmurline.errors import BadCount, BadSize, BadTable, SizeMismatch, UnknownWord


def is_size(size):
    """True if the integer is a size."""
    return 1 <= size <= Table.MOST


def check_size(size):
    """Raises BadSize if the integer is not a size."""
    if not is_size(size):
        raise BadSize(size)


def check_same_size(first, second):
    """Raises SizeMismatch if the two objects have different sizes."""
    if first.size != second.size:
        raise SizeMismatch(first.size, second.size)


def is_word(word, size):
    """True if the integer is a word of the size."""
    return 0 <= word < size


def all_words(words, size):
    """True if each integer of the list is a word of the size."""
    return all([is_word(word, size) for word in words])


def check_word(word, size):
    """Raises UnknownWord if the integer is not a word of the size."""
    if not is_word(word, size):
        raise UnknownWord(word)


def check_words(words, size):
    """Raises UnknownWord for the first integer of the list that is not a word of the size."""
    for word in words:
        check_word(word, size)


def ascending(words, size):
    """The words of the list in ascending order, each once."""
    return [word for word in range(size) if word in words]


def joined(*tables, size):
    """The product of the tables from left to right, which is the identity without tables."""
    whole = Table.identity(size)
    # The product so far always has this size, so the first table of another size is refused by *.
    for table in tables:
        whole = whole * table
    return whole


class Table:
    """A set of pairs (told, out) of words of one size. It is never changed."""

    MOST = 6

    def __init__(self, rows):
        size = len(rows)
        check_size(size)
        for index, row in enumerate(rows):
            if not all_words(row, size):
                raise BadTable(index)
        self.size = size
        self._rows = tuple([tuple(ascending(row, size)) for row in rows])
        self._pairs = tuple([(told, out) for told, row in enumerate(self._rows) for out in row])

    @classmethod
    def identity(cls, size):
        """The table in which each word comes out of itself alone."""
        check_size(size)
        return cls([[word] for word in range(size)])

    @classmethod
    def full(cls, size):
        """The table with all pairs."""
        check_size(size)
        return cls([list(range(size)) for _ in range(size)])

    @classmethod
    def empty(cls, size):
        """The table without pairs."""
        check_size(size)
        return cls([[] for _ in range(size)])

    @staticmethod
    def of(size, pairs):
        """The table with the pairs of a list or of another table."""
        check_size(size)
        rows = [[] for _ in range(size)]
        for told, out in pairs:
            check_words([told, out], size)
            rows[told].append(out)
        return Table(rows)

    def rows(self):
        """For each word, the list of the words that can come out of it."""
        return [list(row) for row in self._rows]

    def pairs(self):
        """All pairs in ascending order."""
        return list(self._pairs)

    @property
    def total(self):
        """True if at least one word can come out of each word."""
        return all([len(row) >= 1 for row in self._rows])

    @property
    def certain(self):
        """True if at most one word can come out of each word."""
        return all([len(row) <= 1 for row in self._rows])

    def repeated(self, count):
        """The product of as many copies of the table as the count says."""
        if count < 0:
            raise BadCount(count)
        whole = Table.identity(self.size)
        power = self
        # Squaring takes a step for each binary digit of the count, which may be far too large to count up to.
        while count > 0:
            if count & 1:
                whole = whole * power
            power = power * power
            count = count >> 1
        return whole

    def _out_of_some(self, words):
        """The words that can come out of at least one of the words."""
        return ascending([out for word in words for out in self._rows[word]], self.size)

    def _out_of_each(self, words):
        """The words that can come out of every one of the words, which are all words if there are none."""
        return [out for out in range(self.size) if all([out in self._rows[word] for word in words])]

    def _only_into(self, outs):
        """The words out of which nothing can come but these words."""
        return [word for word in range(self.size) if all([out in outs for out in self._rows[word]])]

    def _entry(self, word):
        """What `str` shows for one word."""
        outs = ",".join([str(out) for out in self._rows[word]]) or "-"
        return f"{word}>{outs}"

    def __getitem__(self, word):
        check_word(word, self.size)
        return list(self._rows[word])

    def __call__(self, words):
        check_words(words, self.size)
        return self._out_of_some(words)

    def __contains__(self, pair):
        return pair in self._pairs

    def __len__(self):
        return len(self._pairs)

    def __bool__(self):
        return bool(self._pairs)

    def __iter__(self):
        return iter(self._pairs)

    def __str__(self):
        return " ".join([self._entry(word) for word in range(self.size)])

    def __repr__(self):
        return f"Table({self.rows()})"

    def __eq__(self, other):
        return isinstance(other, Table) and self._rows == other._rows

    def __le__(self, other):
        check_same_size(self, other)
        return all([pair in other._pairs for pair in self._pairs])

    def __lt__(self, other):
        return self <= other and not self == other

    def __or__(self, other):
        check_same_size(self, other)
        return Table([mine + others for mine, others in zip(self._rows, other._rows)])

    def __and__(self, other):
        check_same_size(self, other)
        return Table([[out for out in mine if out in others] for mine, others in zip(self._rows, other._rows)])

    def __invert__(self):
        words = list(range(self.size))
        return Table([[told for told in words if word in self._rows[told]] for word in words])

    def __mul__(self, other):
        check_same_size(self, other)
        return Table([other._out_of_some(row) for row in self._rows])

    def __rshift__(self, other):
        """The greatest table x with self * x <= other."""
        check_same_size(self, other)
        leading = ~self
        # Behind a word only those words may come that come out of each word leading to it.
        return Table([other._out_of_each(row) for row in leading._rows])

    def __lshift__(self, other):
        """The greatest table x with x * other <= self."""
        check_same_size(self, other)
        return Table([other._only_into(row) for row in self._rows])

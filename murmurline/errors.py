"""The errors that the program raises. The attributes of an error tell what was wrong."""


class MurmurError(ValueError):
    """The base class of all errors of the program."""


class BadSize(MurmurError):
    """A size is not from 1 to 6."""

    def __init__(self, size):
        super().__init__(f"the size {size} is not from 1 to 6")
        self.size = size


class BadTable(MurmurError):
    """A list of a table contains an integer that is not a word."""

    def __init__(self, index):
        super().__init__(f"the list {index} of the table contains what is not a word")
        self.index = index


class UnknownWord(MurmurError):
    """An integer is not a word of the size in question."""

    def __init__(self, word):
        super().__init__(f"{word} is not a word of this size")
        self.word = word


class SizeMismatch(MurmurError):
    """Two sizes that have to be equal are not."""

    def __init__(self, first, second):
        super().__init__(f"the sizes {first} and {second} differ")
        self.first = first
        self.second = second


class BadCount(MurmurError):
    """A count is out of its range."""

    def __init__(self, count):
        super().__init__(f"the count {count} is out of range")
        self.count = count


class BadPerson(MurmurError):
    """One part of what describes a person is wrong."""

    def __init__(self, part):
        super().__init__(f"the part {part} does not describe a person")
        self.part = part


class BadLetter(MurmurError):
    """A string is not one of the letters a to z."""

    def __init__(self, letter):
        super().__init__(f"not a letter from a to z: {letter}")
        self.letter = letter


class UnknownPerson(MurmurError):
    """Nobody in the cast has the letter."""

    def __init__(self, letter, place):
        super().__init__(f"at place {place}, nobody has the letter: {letter}")
        self.letter = letter
        self.place = place


class TooMany(MurmurError):
    """There are more things of a kind than the limit allows."""

    def __init__(self, limit):
        super().__init__(f"more than {limit}")
        self.limit = limit


class BadPattern(MurmurError):
    """A pattern is wrong at a place."""

    def __init__(self, place):
        super().__init__(f"the pattern is wrong at place {place}")
        self.place = place


class SameWord(MurmurError):
    """Two words that have to be different are the same."""

    def __init__(self, word):
        super().__init__(f"both words are {word}")
        self.word = word


class UnknownClue(MurmurError):
    """No clue of this number is kept."""

    def __init__(self, number):
        super().__init__(f"no clue of the number {number} is kept")
        self.number = number


class BadPlace(MurmurError):
    """A row has no such place."""

    def __init__(self, place):
        super().__init__(f"the row has no place {place}")
        self.place = place


class TooLong(MurmurError):
    """A row is longer than the limit allows."""

    def __init__(self, limit):
        super().__init__(f"the row would exceed the limit of {limit} letters")
        self.limit = limit


class Melted(MurmurError):
    """Two words of a book melt in a row."""

    def __init__(self, first, second):
        super().__init__(f"the words {first} and {second} melt in the row")
        self.first = first
        self.second = second


class NothingToUndo(MurmurError):
    """There is no change that can be taken back."""

    def __init__(self):
        super().__init__("there is no change to take back")


class NothingToRedo(MurmurError):
    """There is no change that can be made again."""

    def __init__(self):
        super().__init__("there is no change to make again")


class Refused(MurmurError):
    """A deed of a list was refused."""

    def __init__(self, index):
        super().__init__(f"the deed {index} was refused")
        self.index = index


class BadLine(MurmurError):
    """A line of a text is wrong."""

    def __init__(self, line):
        super().__init__(f"the line {line} is wrong")
        self.line = line

"""The four kinds of people (points 13 and 14)."""

from murmurline.errors import BadPerson
from murmurline.tables import Table, all_words, ascending, check_word, is_size


class Person:
    """Hears a word for each word that it is told, and says one of several words for it."""

    def __init__(self, hears, says):
        size = len(hears)
        if not is_size(size) or not all_words(hears, size):
            raise BadPerson("hears")
        if len(says) != size or not all([len(words) >= 1 and all_words(words, size) for words in says]):
            raise BadPerson("says")
        self.size = size
        self._hears = list(hears)
        self._says = [ascending(words, size) for words in says]

    def heard(self, word):
        """The word that the person hears if it is told the word."""
        check_word(word, self.size)
        return self._hears[word]

    def said(self, word):
        """The words that the person may say if it is told the word, in ascending order."""
        return list(self._says[self.heard(word)])

    @property
    def table(self):
        """The table of what the person may say."""
        return Table([self.said(word) for word in range(self.size)])


class Knower(Person):
    """Says only the word itself if it knows the word."""

    def __init__(self, hears, says, knows):
        super().__init__(hears, says)
        if not all_words(knows, self.size):
            raise BadPerson("knows")
        self._known = ascending(knows, self.size)

    @property
    def known(self):
        """The known words in ascending order."""
        return list(self._known)

    def said(self, word):
        """The word alone if it is known, otherwise what the person may say without knowing it."""
        if word in self._known:
            return [word]
        return super().said(word)


class Doubter(Person):
    """May also say the very word that it was told."""

    def said(self, word):
        """What a person may say, and the word itself, in ascending order."""
        return ascending(super().said(word) + [word], self.size)


class KnowingDoubter(Knower, Doubter):
    """Says only the word itself if it knows the word, and otherwise what a doubter may say."""

    def said(self, word):
        """The word alone if it is known, otherwise what a doubter may say."""
        # Behind Knower stands Doubter, which is asked for the words that are not known.
        return super().said(word)

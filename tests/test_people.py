"""Points 13 and 14: the four kinds of people."""

import unittest

from murmurline.errors import BadPerson, UnknownWord
from murmurline.people import Doubter, Knower, KnowingDoubter, Person
from murmurline.tables import Table
from tests.helper import FORTY, MurmurCase


def plain(hears, says):
    return [sorted(set(says[heard])) for heard in hears]


def doubting(hears, says):
    return [sorted(set(outs) | {word}) for word, outs in enumerate(plain(hears, says))]


def knowing(rows, knows):
    return [[word] if word in knows else outs for word, outs in enumerate(rows)]


def descriptions():
    """What several people of each size hear and say."""
    found = [([1, 0, 2], [[2], [1], [0]]), ([0, 0, 0, 0], [[3, 1, 3], [0], [0], [2]]), ([2, 2, 0], [[2, 1], [0], [1, 0]])]
    for size in range(1, 7):
        words = list(range(size))
        found.append((words, [[word] for word in words]))
        found.append((words[::-1], [words[::-1] for _ in words]))
        found.append(([(word * 5 + 2) % size for word in words], [[(word + 1) % size, 0] for word in words]))
    return found


def each_kind(hears, says, knows):
    """All four kinds of people, with the rows of the table that each one must have."""
    return [
        (Person(hears, says), plain(hears, says)),
        (Knower(hears, says, knows), knowing(plain(hears, says), knows)),
        (Doubter(hears, says), doubting(hears, says)),
        (KnowingDoubter(hears, says, knows), knowing(doubting(hears, says), knows)),
    ]


def makers():
    """For each kind, what makes such a person of its first two parts."""
    return [
        Person,
        lambda hears, says: Knower(hears, says, []),
        Doubter,
        lambda hears, says: KnowingDoubter(hears, says, []),
    ]


class Saying(MurmurCase):
    def test_what_each_kind_hears_and_says(self):
        for hears, says in descriptions():
            words = list(range(len(hears)))
            for knows in [[], [0], words, words[::2], [words[-1], 0, words[-1]]]:
                for person, rows in each_kind(hears, says, knows):
                    with self.subTest(hears=hears, says=says, knows=knows, kind=type(person).__name__):
                        self.assertEqual(person.size, len(hears))
                        self.assertEqual([person.heard(word) for word in words], hears)
                        self.assertEqual([person.said(word) for word in words], rows)
                        self.assertEqual(person.table, Table(rows))

    def test_one_person_of_each_kind(self):
        hears, says = [1, 0, 2], [[2], [1, 0, 1], [0]]
        self.assertEqual(Person(hears, says).table.rows(), [[0, 1], [2], [0]])
        self.assertEqual(Knower(hears, says, [2]).table.rows(), [[0, 1], [2], [2]])
        self.assertEqual(Doubter(hears, says).table.rows(), [[0, 1], [1, 2], [0, 2]])
        self.assertEqual(KnowingDoubter(hears, says, [2, 1]).table.rows(), [[0, 1], [1], [2]])

    def test_unknown_words(self):
        for hears, says in descriptions():
            size = len(hears)
            for person, _ in each_kind(hears, says, [0]):
                for word in [-FORTY, -size, -1, size, size + 1, FORTY]:
                    self.refused(UnknownWord(word), lambda: person.said(word))
                    self.refused(UnknownWord(word), lambda: person.heard(word))

    def test_known(self):
        for kind in [Knower, KnowingDoubter]:
            for knows, known in [([], []), ([2, 0, 2, 2], [0, 2]), ([1], [1]), ([2, 1, 0], [0, 1, 2])]:
                self.assertEqual(kind([0, 0, 0], [[1], [1], [1]], knows).known, known)

    def test_tables_and_known_words_are_read_only(self):
        knower = Knower([0], [[0]], [0])
        with self.assertRaises(AttributeError):
            knower.table = Table.identity(1)
        with self.assertRaises(AttributeError):
            knower.known = []

    def test_the_passed_lists_are_copied(self):
        hears, says, knows = [1, 0, 2], [[2], [1, 0, 1], [0]], [2, 2]
        for kind in range(4):
            person, rows = each_kind(hears, says, knows)[kind]
            self.assertEqual((hears, says, knows), ([1, 0, 2], [[2], [1, 0, 1], [0]], [2, 2]))
            hears[0] = 2
            says[1].clear()
            says[0][0] = 1
            knows.append(0)
            self.assertEqual(person.table.rows(), rows)
            self.assertEqual(person.heard(0), 1)
            self.assertEqual(person.size, 3)
            if isinstance(person, Knower):
                self.assertEqual(person.known, [2])
            hears, says, knows = [1, 0, 2], [[2], [1, 0, 1], [0]], [2, 2]

    def test_the_returned_lists_are_new(self):
        for person, rows in each_kind([1, 0, 2], [[2], [1, 0], [0]], [2]):
            for word in range(3):
                person.said(word).append(5)
            self.assertEqual([person.said(word) for word in range(3)], rows)
            if isinstance(person, Knower):
                person.known.append(0)
                self.assertEqual(person.known, [2])
                self.assertEqual(person.table.rows(), rows)


class Kinds(MurmurCase):
    def test_which_kind_is_a_subclass_of_which(self):
        self.assertEqual(Person.__bases__, (object,))
        self.assertEqual(Knower.__bases__, (Person,))
        self.assertEqual(Doubter.__bases__, (Person,))
        self.assertEqual(KnowingDoubter.__bases__, (Knower, Doubter))
        self.assertFalse(issubclass(Knower, Doubter))
        self.assertFalse(issubclass(Doubter, Knower))

    def test_the_listed_methods_are_defined_in_the_class_itself(self):
        listed = {Person: ["heard", "said", "table"], Knower: ["said", "known"], Doubter: ["said"]}
        listed[KnowingDoubter] = ["said"]
        for kind, names in listed.items():
            for name in names:
                self.assertIn(name, vars(kind))

    def test_only_those_who_know_have_known_words(self):
        self.assertFalse(hasattr(Person([0], [[0]]), "known"))
        self.assertFalse(hasattr(Doubter([0], [[0]]), "known"))


class Wrong(MurmurCase):
    def test_hears(self):
        for make in makers():
            for count in [0, 7, 8]:
                self.refused(BadPerson("hears"), lambda: make([0] * count, [[0]] * count))
            for wrong in [-FORTY, -1, 3, FORTY]:
                for at in range(3):
                    hears = [0, 1, 2]
                    hears[at] = wrong
                    self.refused(BadPerson("hears"), lambda: make(hears, [[0], [1], [2]]))

    def test_says(self):
        for make in makers():
            for says in [[], [[0]], [[0], [1]], [[0], [1], [2], [0]], [[0], [], [2]], [[], [], []]]:
                self.refused(BadPerson("says"), lambda: make([0, 1, 2], says))
            for wrong in [-FORTY, -1, 3, FORTY]:
                for at in range(3):
                    says = [[0], [1], [2]]
                    says[at] = [0, wrong]
                    self.refused(BadPerson("says"), lambda: make([0, 1, 2], says))

    def test_a_list_that_is_never_said_is_checked(self):
        self.refused(BadPerson("says"), lambda: Person([0, 0], [[0], []]))
        self.refused(BadPerson("says"), lambda: Person([0, 0], [[0], [2]]))

    def test_knows(self):
        for kind in [Knower, KnowingDoubter]:
            for knows in [[3], [-1], [0, 1, 2, 3], [FORTY], [-FORTY, 0]]:
                self.refused(BadPerson("knows"), lambda: kind([0, 1, 2], [[0], [1], [2]], knows))

    def test_the_earliest_wrong_part_counts(self):
        for make in makers():
            self.refused(BadPerson("hears"), lambda: make([0, 2], [[0]]))
            self.refused(BadPerson("hears"), lambda: make([], [[]]))
        for kind in [Knower, KnowingDoubter]:
            self.refused(BadPerson("hears"), lambda: kind([-1, 0], [[0], []], [5]))
            self.refused(BadPerson("says"), lambda: kind([1, 0], [[0], []], [5]))
            self.refused(BadPerson("hears"), lambda: kind([-1, 0], [[0], [1]], [5]))


if __name__ == "__main__":
    unittest.main()

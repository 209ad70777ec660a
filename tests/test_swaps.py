"""Points 2, 3 and 32 to 34: the order of people."""

import itertools
import math
import unittest

from murmurline.casts import Cast
from murmurline.errors import TooMany, UnknownPerson
from murmurline.people import Person
from murmurline.swaps import least_order, order_matters, orders, swap_clash, swap_path, swappable
from tests.helper import Draws, MurmurCase, all_strings, behind, cast_of, outs_along, pair_list, some_said

SAME, SWAPS, ZERO, ONE = [[0], [1]], [[1], [0]], [[0], [0]], [[1], [1]]


def casts():
    """For each cast what its people say: in some of them many can change places, in others nobody can."""
    found = [
        (2, {}), (6, {}), (2, {"a": ZERO, "b": ONE, "c": SAME}), (2, {"x": SWAPS, "b": ZERO, "m": ONE, "d": SAME}),
        (1, {"a": [[0]], "b": [[0]], "q": [[0]]}), (2, {"a": SWAPS, "b": SWAPS, "c": [[0, 1], [0, 1]], "d": ZERO}),
        # Neighbours are in each other's way, and nobody else is.
        (5, {"a": [[0], [0], [2], [3], [4]], "b": [[0], [1], [1], [3], [4]], "c": [[0], [1], [2], [2], [4]],
             "d": [[0], [1], [2], [3], [3]]}),
        (4, {"a": [[1], [0], [2], [3]], "b": [[0], [1], [3], [2]], "c": [[0], [0], [2], [3]],
             "z": [[0], [1], [2], [2]]}),
        (6, {"a": [[1], [2], [0], [3], [4], [5]], "b": [[2], [0], [1], [3], [4], [5]],
             "e": [[0], [1], [2], [4], [5], [3]], "f": [[1], [0], [2], [3], [4], [5]]}),
    ]
    for size in range(2, 5):
        for letters in ["a", "abc", "bdxy"]:
            found += [(size, some_said(size, letters, seed, dense)) for seed, dense in [(1, 1), (2, 2), (3, 1)]]
    return found


def commuting(size, said):
    """The pairs of letters of people who can change places, by the products of their pairs."""
    pairs = {letter: set(pair_list(said[letter])) for letter in said}
    return [
        (a, b) for a, b in itertools.combinations(sorted(said), 2)
        if behind(size, pairs[a], pairs[b]) == behind(size, pairs[b], pairs[a])
    ]


def neighbours(row, free):
    """The rows to which one swap leads, each with its place."""
    found = {}
    for at in range(len(row) - 1):
        if tuple(sorted(row[at:at + 2])) in free:
            found[at] = row[:at] + row[at + 1] + row[at] + row[at + 2:]
    return found


def reachable(row, free):
    """All rows to which swaps lead, each with the number of swaps that it takes."""
    found, newest = {row: 0}, [row]
    while newest:
        longer = []
        for one in newest:
            for other in neighbours(one, free).values():
                if other not in found:
                    found[other] = found[one] + 1
                    longer.append(other)
        newest = longer
    return found


def clash(row, other, said, free):
    """Why two rows cannot be led into each other, by the words of point 33."""
    for letter in sorted(said):
        if row.count(letter) != other.count(letter):
            return "count", letter
    for a, b in itertools.combinations(sorted(said), 2):
        kept = [[letter for letter in one if letter in (a, b)] for one in (row, other)]
        if (a, b) not in free and kept[0] != kept[1]:
            return "order", a + b
    return None


def some_rows_of(letters, count, seed, longest):
    draws = Draws(seed)
    letters = sorted(letters)
    return ["".join(letters[draws.below(len(letters))] for _ in range(draws.below(longest + 1))) for _ in range(count)]


def shuffled(row, seed):
    draws, letters, found = Draws(seed), list(row), ""
    while letters:
        found += letters.pop(draws.below(len(letters)))
    return found


class Swappable(MurmurCase):
    def test_by_the_products(self):
        counts = set()
        for size, said in casts():
            found = swappable(cast_of(size, said))
            self.assertEqual(found, commuting(size, said), said)
            self.assertTrue(type(found) is list and all(type(pair) is tuple for pair in found))
            counts.add((len(found), len(said)))
        self.assertGreater(len(counts), 8)

    def test_known_casts(self):
        cast = cast_of(2, {"x": SWAPS, "b": ZERO, "m": ONE, "d": SAME, "y": SWAPS})
        self.assertEqual(swappable(cast), [("b", "d"), ("d", "m"), ("d", "x"), ("d", "y"), ("x", "y")])
        self.assertEqual([swappable(Cast(3)), swappable(cast_of(2, {"a": ZERO}))], [[], []])
        swappable(cast).clear()
        self.assertEqual(len(swappable(cast)), 5)

    def test_the_cast_counts_as_it_is_now(self):
        cast = cast_of(2, {"a": ZERO, "b": ONE})
        self.assertEqual([swappable(cast), least_order(cast, "ba"), swap_path(cast, "ba", "ab")], [[], "ba", None])
        cast.put("b", Person([0, 1], SAME))
        self.assertEqual([swappable(cast), least_order(cast, "ba"), swap_path(cast, "ba", "ab")],
                         [[("a", "b")], "ab", [0]])
        self.assertIsNone(swap_clash(cast, "ba", "ab"))
        cast.leave("b")
        self.assertEqual(swappable(cast), [])
        self.refused(UnknownPerson("b", 0), lambda: least_order(cast, "ba"))


class LeastOrder(MurmurCase):
    def test_by_trying_all_swaps(self):
        changed = 0
        for number, (size, said) in enumerate(casts()):
            cast, free = cast_of(size, said), commuting(size, said)
            for row in all_strings(said, 2) + (some_rows_of(said, 25, number + 1, 7) if said else []):
                found = least_order(cast, row)
                self.assertEqual(found, min(reachable(row, free)), (said, row))
                self.assertEqual(cast.through(found), cast.through(row))
                changed += found != row
        self.assertGreater(changed, 100)

    def test_known_rows(self):
        cast = cast_of(2, {"a": ZERO, "b": ONE, "c": SAME})
        self.assertEqual([least_order(cast, row) for row in ["bca", "", "ccc", "cba", "abc", "bcacb"]],
                         ["bac", "", "ccc", "bac", "abc", "babcc"])
        self.assertEqual(least_order(Cast(4), ""), "")

    def test_equal_letters_do_not_pass_each_other(self):
        # It makes no difference to the row, but neither may somebody get past one of them.
        cast = cast_of(2, {"a": SAME, "b": ZERO, "c": ONE})
        self.assertEqual([least_order(cast, "bb"), least_order(cast, "cbcb"), least_order(cast, "cabab")],
                         ["bb", "cbcb", "aacbb"])

    def test_long_rows(self):
        cast = cast_of(5, casts()[6][1])
        row = "dcba" * 300
        found = self.at_once(lambda: least_order(cast, row))
        self.assertEqual(sorted(found), sorted(row))
        self.assertEqual(cast.through(found), cast.through(row))
        free = cast_of(2, {letter: SAME for letter in "abcdefgh"})
        self.assertEqual(self.at_once(lambda: least_order(free, "hgfedcba" * 300)), "".join(
            letter * 300 for letter in "abcdefgh"))


class SwapPath(MurmurCase):
    def check(self, cast, free, row, other):
        path = swap_path(cast, row, other)
        self.assertIs(type(path), list)
        for at in path:
            row = neighbours(row, free)[at]
        self.assertEqual(row, other)
        return len(path)

    def test_by_trying_all_swaps(self):
        kinds = {"path": 0, "none": 0}
        for number, (size, said) in enumerate(casts()):
            cast, free = cast_of(size, said), commuting(size, said)
            for row in (some_rows_of(said, 12, number + 1, 6) if said else []) + [""]:
                ways = reachable(row, free)
                others = [shuffled(row, seed) for seed in range(4)] + [row, row[1:], row + row[:1], row[::-1]]
                for other in others + sorted(ways)[:6] + [max(ways)]:
                    if other in ways:
                        self.assertEqual(self.check(cast, free, row, other), ways[other], (said, row, other))
                        kinds["path"] += 1
                    else:
                        self.assertIsNone(swap_path(cast, row, other), (said, row, other))
                        kinds["none"] += 1
        self.assertGreater(min(kinds.values()), 500)

    def test_all_rows_of_three_people(self):
        turns = (3, {"a": [[0], [1], [2]], "b": [[1], [0], [2]], "c": [[2], [0], [1]]})
        for size, said in [casts()[2], casts()[3], turns]:
            cast, free = cast_of(size, said), commuting(size, said)
            rows = all_strings(sorted(said)[:3], 4)
            for row in rows[::3]:
                ways = reachable(row, free)
                for other in rows:
                    self.assertEqual(swap_path(cast, row, other) is not None, other in ways)
                    self.assertEqual(swap_clash(cast, row, other), clash(row, other, said, free))
                    if other in ways:
                        self.assertEqual(self.check(cast, free, row, other), ways[other])

    def test_known_rows(self):
        cast = cast_of(2, {"a": ZERO, "b": ONE, "c": SAME})
        self.assertEqual(swap_path(cast, "cab", "abc"), [0, 1])
        self.assertEqual(swap_path(cast, "cab", "cab"), [])
        self.assertEqual(swap_path(cast, "", ""), [])
        self.assertEqual(swap_path(cast, "ac", "ca"), [0])
        self.assertEqual(len(swap_path(cast, "aacc", "ccaa")), 4)
        for row, other in [("ab", "ba"), ("a", ""), ("", "a"), ("aa", "a"), ("a", "aa"), ("ac", "cb"), ("abc", "cba")]:
            self.assertIsNone(swap_path(cast, row, other))
        self.assertIsNone(swap_path(cast, "abab", "baba"))

    def test_a_table_that_is_the_same_does_not_suffice(self):
        # Both rows have one table, but nobody may change places.
        cast = cast_of(2, {"a": ZERO, "b": ONE})
        self.assertEqual(cast.through("aba"), cast.through("baa"))
        self.assertIsNone(swap_path(cast, "aba", "baa"))
        self.assertEqual(swap_clash(cast, "aba", "baa"), ("order", "ab"))
        self.assertEqual(swap_clash(cast, "aba", "ba"), ("count", "a"))

    def test_equal_letters_side_by_side(self):
        cast = cast_of(2, {"a": ZERO, "b": SAME, "c": ONE})
        self.assertEqual(swap_path(cast, "aa", "aa"), [])
        self.assertEqual(swap_path(cast, "aab", "baa"), [1, 0])
        self.assertIsNone(swap_path(cast, "aac", "caa"))
        self.assertEqual([swap_clash(cast, "aa", "aa"), swap_clash(cast, "aac", "caa")], [None, ("order", "ac")])

    def test_long_rows(self):
        cast = cast_of(2, {letter: SAME for letter in "abcdefgh"})
        row = "hgfedcba" * 40
        path = self.at_once(lambda: swap_path(cast, row, row[::-1]))
        self.assertEqual(len(path), self.turned_round(row, row[::-1]))
        self.assertIsNone(self.at_once(lambda: swap_clash(cast, row, row[::-1])))

    def turned_round(self, row, other):
        """How many pairs of people stand in another order, where the first a stays the first a and so on."""
        places = {letter: [at for at, one in enumerate(other) if one == letter] for letter in set(row)}
        goals = [places[letter].pop(0) for letter in row]
        return sum(one > later for one, later in itertools.combinations(goals, 2))


class SwapClash(MurmurCase):
    def test_by_its_words(self):
        kinds = {}
        for number, (size, said) in enumerate(casts()):
            cast, free = cast_of(size, said), commuting(size, said)
            for row in (some_rows_of(said, 12, number + 1, 6) if said else []) + [""]:
                ways = reachable(row, free)
                for other in [shuffled(row, seed) for seed in range(8)] + [row[1:], row + row[:1], row[::-1]]:
                    found = swap_clash(cast, row, other)
                    self.assertEqual(found, clash(row, other, said, free), (said, row, other))
                    self.assertEqual(found is None, other in ways)
                    self.assertEqual(found is None, swap_path(cast, row, other) is not None)
                    self.assertIs(type(found), tuple if found else type(None))
                    kinds[found and found[0]] = kinds.get(found and found[0], 0) + 1
        self.assertGreater(min(kinds.values()), 200)
        self.assertEqual(len(kinds), 3)

    def test_known_rows(self):
        cast = cast_of(2, {"a": ZERO, "b": ONE, "c": SAME, "d": SWAPS})
        self.assertEqual(swap_clash(cast, "ab", "ba"), ("order", "ab"))
        self.assertEqual(swap_clash(cast, "cab", "cb"), ("count", "a"))
        self.assertEqual(swap_clash(cast, "dcc", "cd"), ("count", "c"))
        self.assertEqual(swap_clash(cast, "b", "d"), ("count", "b"))
        self.assertEqual(swap_clash(cast, "dbca", "abcd"), ("order", "ab"))
        self.assertEqual(swap_clash(cast, "dba", "bda"), ("order", "bd"))
        self.assertEqual(swap_clash(cast, "adba", "abda"), ("order", "bd"))
        self.assertIsNone(swap_clash(cast, "acdc", "cadc"))
        self.assertIsNone(swap_clash(Cast(2), "", ""))


class Orders(MurmurCase):
    def test_all_rows_of_three_letters_and_others(self):
        for row in all_strings("abz", 5) + ["abcdef", "ffedcb", "aabbccd", "zzyyxx", "qqqqqqq"]:
            expected = sorted({"".join(order) for order in itertools.permutations(row)})
            self.assertEqual(list(orders(row)), expected, row)

    def test_the_empty_row(self):
        self.assertEqual(list(orders("")), [""])
        self.assertEqual(list(orders("k")), ["k"])

    def test_the_first_ones_of_a_long_row_come_at_once(self):
        row = "zyxwvutsrqponmlkjihgfedcba" * 2
        walk = orders(row)
        first = self.at_once(lambda: [next(walk) for _ in range(3)])
        start = "".join(sorted(row))
        self.assertEqual(first, [start, start[:-3] + "zyz", start[:-3] + "zzy"])
        walk = orders("ba" * 1000)
        self.assertEqual(self.at_once(lambda: next(walk)), "a" * 1000 + "b" * 1000)
        self.assertEqual(self.at_once(lambda: next(walk)), "a" * 999 + "ba" + "b" * 999)

    def test_each_one_is_the_next(self):
        found = []
        for order in orders("abcabcabcabc"):
            found.append(order)
            if len(found) == 500:
                break
        self.assertEqual(found, sorted(set(found)))
        every = math.factorial(9) // (math.factorial(3) * math.factorial(4) * math.factorial(2))
        self.assertEqual([len(list(orders("cabbcabba"))), len(set(orders("cabbcabba")))], [every, every])

    def test_it_is_a_generator(self):
        one, other = orders("ba"), orders("ba")
        self.assertEqual([next(one), next(one), next(other), next(one, None)], ["ab", "ba", "ab", None])
        self.assertIs(iter(other), other)


class OrderMatters(MurmurCase):
    def expected(self, size, said, row):
        tables = {"".join(order): outs_along(size, said, order) for order in itertools.permutations(row)}
        first = min(tables)
        differing = [order for order in tables if tables[order] != tables[first]]
        return (first, min(differing)) if differing else None

    def test_by_trying_all_orders(self):
        kinds = {False: 0, True: 0}
        for number, (size, said) in enumerate(casts()):
            cast = cast_of(size, said)
            for row in all_strings(said, 2) + (some_rows_of(said, 8, number + 7, 6) if said else []):
                found = order_matters(cast, row)
                self.assertEqual(found, self.expected(size, said, row), (said, row))
                self.assertIs(type(found), tuple if found else type(None))
                kinds[found is None] += 1
        self.assertGreater(min(kinds.values()), 50)

    def test_known_rows(self):
        cast = cast_of(2, {"a": ZERO, "b": ONE, "c": SAME})
        self.assertEqual(order_matters(cast, "ba"), ("ab", "ba"))
        self.assertEqual(order_matters(cast, "ccba"), ("abcc", "bacc"))
        self.assertEqual(order_matters(cast, "abab"), ("aabb", "abba"))
        for row in ["", "a", "bbb", "ac", "cacac"]:
            self.assertIsNone(order_matters(cast, row))

    def test_people_who_cannot_change_places_but_are_alike_in_every_order(self):
        # Whoever speaks last of three, everything has become 0 by then.
        cast = cast_of(4, {"a": [[0], [2], [0], [0]], "b": [[0], [0], [3], [0]]})
        self.assertEqual(swappable(cast), [])
        self.assertEqual(order_matters(cast, "ba"), ("ab", "ba"))
        self.assertIsNone(order_matters(cast, "aab"))
        self.assertIsNone(order_matters(cast, "babab"))

    def test_six_letters_and_more(self):
        said = some_said(6, "abcdefgh", 1, 1)
        cast = cast_of(6, said)
        for row in ["fedcba", "habcde", "aabbcc"]:
            self.assertEqual(self.at_once(lambda: order_matters(cast, row)), self.expected(6, said, row))
        same = cast_of(6, {letter: [[word] for word in range(6)] for letter in "abcdefgh"})
        self.assertIsNone(self.at_once(lambda: order_matters(same, "abcdef")))
        for row in ["abcdefg", "aaaaaaa", "ab" * 50]:
            for wide in (cast, same):
                self.refused(TooMany(6), lambda: order_matters(wide, row))


class WrongRows(MurmurCase):
    def test_rows_with_letters_of_nobody(self):
        cast = cast_of(2, {"a": ZERO, "b": ONE})
        for row, letter, place in [("x", "x", 0), ("abx", "x", 2), ("a*b", "*", 1), ("Ab", "A", 0), ("ba ", " ", 2),
                                   ("\u00e9", "\u00e9", 0), ("abzyx", "z", 2), ("abababa?", "?", 7)]:
            error = UnknownPerson(letter, place)
            self.refused(error, lambda: least_order(cast, row))
            self.refused(error, lambda: order_matters(cast, row))
            for other in ["", "ab", "yyy", "aay", row + "k"]:
                self.refused(error, lambda: swap_path(cast, row, other))
                self.refused(error, lambda: swap_clash(cast, row, other))
            for other in ["", "ab", "ba", "bbbbbbbbb"]:
                self.refused(error, lambda: swap_path(cast, other, row))
                self.refused(error, lambda: swap_clash(cast, other, row))

    def test_an_empty_cast(self):
        for work in [least_order, order_matters, lambda cast, row: swap_path(cast, row, ""),
                     lambda cast, row: swap_path(cast, "", row), lambda cast, row: swap_clash(cast, row, row)]:
            self.refused(UnknownPerson("a", 0), lambda: work(Cast(2), "a"))
        self.assertIsNone(order_matters(Cast(2), ""))

    def test_the_cast_is_not_changed(self):
        cast = cast_of(2, {"a": ZERO, "b": ONE})
        swap_path(cast, "ab", "ba")
        swap_clash(cast, "ab", "ba")
        order_matters(cast, "ab")
        least_order(cast, "ba")
        self.assertEqual([cast.letters(), cast["a"].rows(), cast["b"].rows()], [["a", "b"], ZERO, ONE])


if __name__ == "__main__":
    unittest.main()

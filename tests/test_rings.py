import copy
import itertools
import random
import unittest

from callfold.errors import NoMark
from callfold.rings import is_ring, rank_deeds
from callfold.texts import read_book
from shapes import all_marks, call, deed, drawn_book, drawn_marks, num, turned


def linked(names, *links):
    """A book of deeds of these one-letter names, with calls (mark, caller, called)."""
    return tuple(deed(name, (), [call(mark, called) for mark, caller, called in links if caller == name])
                 for name in names)


def links_in(book):
    def found(rows, name):
        for row in rows:
            if row[0] == "call":
                yield row[4], name, row[2]
            elif row[0] in ("when", "turn"):
                for part in row[2:]:
                    yield from found(part, name)

    return {mark: (name, called) for one in book for mark, name, called in found(one[2], one[0])}


def is_ring_as_told(book, marks, ring):
    """Whether a list is a ring, by the words of point 14 one by one."""
    links = links_in(book)
    if len(ring) < 1 or any(mark not in marks for mark in ring):
        return False
    for ahead, mark in zip(ring, ring[1:]):
        if links[mark][0] != links[ahead][1]:
            return False
    if links[ring[0]][0] != links[ring[-1]][1]:
        return False
    return all(links[one][1] != links[other][1] for one, other in itertools.combinations(ring, 2))


def first_ranks(book, marks):
    """The first of all lists that would do, or None."""
    names = [one[0] for one in book]
    links = [links_in(book)[mark] for mark in marks]
    for order in itertools.permutations(range(len(names))):
        places = {names[place]: rank for rank, place in enumerate(order)}
        if all(places[caller] < places[called] for caller, called in links):
            return [names[place] for place in order]
    return None


class Marks(unittest.TestCase):
    book = linked("abc", (3, "a", "b"), (7, "b", "c"), (50, "b", "b"), (99, "c", "a"))

    def refused(self, marks):
        for asked in [lambda: rank_deeds(self.book, marks), lambda: is_ring(self.book, marks, [50]),
                      lambda: is_ring(self.book, marks, [])]:
            with self.assertRaises(NoMark) as caught:
                asked()
            self.assertIs(type(caught.exception), NoMark)

    def test_a_mark_that_no_call_bears(self):
        for mark in [0, 1, 2, 4, 8, 51, 98, 100, -1, -3, 1000000, 10 ** 5000, -10 ** 5000]:
            self.refused([mark])
            self.refused(sorted([3, mark]))
            self.refused(sorted([3, 7, 50, mark, 99]))

    def test_a_mark_twice(self):
        self.refused([3, 3])
        self.refused([3, 7, 7])
        self.refused([3, 7, 3])
        self.refused([3, 7, 50, 50, 99])

    def test_marks_exchanged(self):
        self.refused([7, 3])
        self.refused([3, 50, 7])
        self.refused([3, 7, 99, 50])
        self.refused([99, 50, 7, 3])

    def test_rising_lists_are_taken(self):
        for many in range(5):
            for marks in itertools.combinations([3, 7, 50, 99], many):
                rank_deeds(self.book, list(marks))

    def test_a_book_without_calls(self):
        self.assertEqual(rank_deeds((deed("a"),), []), ("ranks", ["a"]))
        with self.assertRaises(NoMark):
            rank_deeds((deed("a"),), [0])

    def test_marks_within_rows_are_marks(self):
        book = (deed("a", (), [turned(3, call(4, "b")), ("when", num(0), (), (call(5, "b"),))]), deed("b"))
        self.assertEqual(rank_deeds(book, [4, 5]), ("ranks", ["a", "b"]))


class Ranks(unittest.TestCase):
    def ranks(self, book, marks, names):
        self.assertEqual(rank_deeds(book, marks), ("ranks", list(names)))

    def test_no_marks(self):
        book = linked("cab", (1, "c", "a"), (2, "a", "c"), (3, "b", "b"))
        self.ranks(book, [], "cab")

    def test_callers_go_ahead(self):
        book = linked("abc", (1, "c", "b"), (2, "b", "a"))
        self.ranks(book, [1, 2], "cba")
        self.ranks(book, [1], "acb")
        self.ranks(book, [2], "bac")

    def test_the_first_of_several_orders(self):
        self.ranks(linked("abcd", (1, "d", "a")), [1], "bcda")
        self.ranks(linked("abcd", (1, "b", "a"), (2, "d", "c")), [1, 2], "badc")
        self.ranks(linked("abcd", (1, "d", "b")), [1], "acdb")
        self.ranks(linked("abcde", (1, "e", "a"), (2, "c", "b")), [1, 2], "cbdea")

    def test_by_places_not_by_names(self):
        self.ranks(linked("zyxw", (1, "x", "z")), [1], "yxzw")

    def test_a_deed_called_several_times(self):
        book = linked("abc", (1, "c", "a"), (2, "c", "a"), (3, "b", "a"))
        self.ranks(book, [1, 2, 3], "bca")

    def test_calls_of_other_marks_do_not_count(self):
        book = linked("abc", (1, "a", "b"), (2, "b", "c"), (3, "c", "a"), (4, "a", "a"))
        self.ranks(book, [1, 2], "abc")
        self.ranks(book, [1, 3], "cab")
        self.ranks(book, [2, 3], "bca")

    def test_unreached_deeds_are_ranked_too(self):
        self.ranks(linked("abc", (1, "c", "b")), [1], "acb")

    def test_drawn_books(self):
        chance = random.Random(61)
        told_ranks = told_rings = 0
        for _ in range(400):
            book = drawn_book(chance, most_deeds=5, back=0.3)
            marks = drawn_marks(chance, book)
            told = rank_deeds(book, marks)
            wanted = first_ranks(book, marks)
            if wanted is not None:
                self.assertEqual(told, ("ranks", wanted))
                told_ranks += 1
            else:
                self.assertEqual(told[0], "ring")
                self.assertTrue(is_ring_as_told(book, marks, told[1]))
                self.assertIs(is_ring(book, marks, told[1]), True)
                told_rings += 1
        self.assertGreater(told_ranks, 100)
        self.assertGreater(told_rings, 50)


class Rings(unittest.TestCase):
    def ring(self, book, marks):
        told = rank_deeds(book, marks)
        self.assertEqual((told[0], len(told)), ("ring", 2))
        self.assertIs(type(told[1]), list)
        self.assertTrue(is_ring_as_told(book, marks, told[1]))
        self.assertIs(is_ring(book, marks, told[1]), True)
        return told[1]

    def test_of_one_mark(self):
        self.assertEqual(self.ring(linked("a", (8, "a", "a")), [8]), [8])
        self.assertEqual(self.ring(linked("abc", (1, "a", "b"), (8, "b", "b"), (9, "b", "c")), [1, 8, 9]), [8])

    def test_of_several(self):
        self.assertIn(self.ring(linked("ab", (1, "a", "b"), (2, "b", "a")), [1, 2]), [[1, 2], [2, 1]])
        book = linked("abcd", (4, "a", "c"), (3, "c", "b"), (2, "b", "d"), (1, "d", "a"))
        self.assertEqual(sorted(self.ring(book, [1, 2, 3, 4])), [1, 2, 3, 4])

    def test_ahead_of_and_behind_deeds_that_are_in_none(self):
        book = linked("abcde", (1, "a", "b"), (2, "b", "c"), (3, "c", "b"), (4, "c", "d"), (5, "d", "e"))
        self.assertEqual(sorted(self.ring(book, [1, 2, 3, 4, 5])), [2, 3])
        book = linked("edcba", (1, "a", "b"), (2, "b", "c"), (3, "c", "b"), (4, "c", "d"), (5, "d", "e"))
        self.assertEqual(sorted(self.ring(book, [1, 2, 3, 4, 5])), [2, 3])

    def test_among_unreached_deeds(self):
        self.assertEqual(sorted(self.ring(linked("abc", (1, "b", "c"), (2, "c", "b")), [1, 2])), [1, 2])

    def test_several_calls_of_one_deed_in_a_ring(self):
        book = linked("ab", (1, "a", "b"), (2, "a", "b"), (3, "b", "a"), (4, "b", "a"))
        self.assertEqual(len(self.ring(book, [1, 2, 3, 4])), 2)
        self.assertEqual(sorted(self.ring(book, [1, 4])), [1, 4])

    def test_rings_that_share_a_deed(self):
        book = linked("abc", (1, "a", "b"), (2, "b", "a"), (3, "b", "c"), (4, "c", "b"))
        self.assertEqual(len(self.ring(book, [1, 2, 3, 4])), 2)

    def test_a_ring_of_the_marks_alone(self):
        book = linked("ab", (1, "a", "b"), (2, "b", "a"), (3, "a", "a"))
        self.assertEqual(self.ring(book, [1, 3]), [3])


class IsRing(unittest.TestCase):
    book = linked("abcd", (1, "a", "b"), (2, "b", "c"), (3, "c", "a"), (4, "b", "a"), (5, "c", "c"), (6, "a", "b"),
                  (7, "c", "d"))
    marks = [1, 2, 3, 4, 5, 6, 7]

    def test_rings_from_each_of_their_marks(self):
        for ring in [[1, 2, 3], [2, 3, 1], [3, 1, 2], [6, 2, 3], [1, 4], [4, 1], [4, 6], [5]]:
            self.assertIs(is_ring(self.book, self.marks, ring), True, ring)

    def test_none(self):
        self.assertIs(is_ring(self.book, self.marks, []), False)
        self.assertIs(is_ring(self.book, [], []), False)

    def test_a_mark_that_is_none_of_them(self):
        self.assertIs(is_ring(self.book, [1, 2, 4, 5], [1, 2, 3]), False)
        self.assertIs(is_ring(self.book, [1, 2, 3, 4], [5]), False)
        self.assertIs(is_ring(self.book, [], [5]), False)
        for mark in [0, 8, 100, -1, 10 ** 5000]:
            self.assertIs(is_ring(self.book, self.marks, [mark]), False)
            self.assertIs(is_ring(self.book, self.marks, [1, mark]), False)
            self.assertIs(is_ring(self.book, self.marks, [mark, 1, 4]), False)

    def test_a_call_that_stands_elsewhere(self):
        # From 1 to 3 there is no step; the first and the last fit one another.
        self.assertIs(is_ring(self.book, self.marks, [1, 3]), False)
        self.assertIs(is_ring(self.book, self.marks, [3, 2, 1]), False)
        self.assertIs(is_ring(self.book, self.marks, [1, 7, 4]), False)

    def test_a_last_one_that_does_not_come_back(self):
        for ring in [[1], [2], [3], [7], [1, 2], [2, 3], [1, 2, 7], [3, 1]]:
            self.assertIs(is_ring(self.book, self.marks, ring), False, ring)

    def test_two_that_call_one_deed(self):
        # Each step fits, but one comes by a deed twice.
        for ring in [[5, 5], [1, 4, 1, 4], [1, 4, 6, 4], [1, 2, 5, 3], [1, 2, 3, 1, 4], [1, 2, 3, 6, 2, 3]]:
            self.assertIs(is_ring(self.book, self.marks, ring), False, ring)

    def test_other_orders(self):
        for ring in itertools.permutations([1, 2, 3]):
            self.assertIs(is_ring(self.book, self.marks, list(ring)), ring in [(1, 2, 3), (2, 3, 1), (3, 1, 2)])

    def test_all_short_lists(self):
        for many in range(5):
            for ring in itertools.product([0] + self.marks, repeat=many):
                for marks in [self.marks, [1, 2, 4, 5]]:
                    told = is_ring(self.book, marks, list(ring))
                    self.assertEqual(told, is_ring_as_told(self.book, marks, list(ring)), ring)

    def test_drawn_books(self):
        chance = random.Random(62)
        rings = 0
        for _ in range(300):
            book = drawn_book(chance, most_deeds=3, back=0.6)
            marks = drawn_marks(chance, book)
            if marks:
                for _ in range(20):
                    ring = [chance.choice(all_marks(book)) for _ in range(chance.randint(1, 3))]
                    told = is_ring(book, marks, ring)
                    self.assertEqual(told, is_ring_as_told(book, marks, ring))
                    rings += told
        self.assertGreater(rings, 50)


class Told(unittest.TestCase):
    def test_what_is_handed_in_stays_and_what_is_told_is_new(self):
        ringed = linked("abc", (1, "a", "b"), (2, "b", "a"), (3, "b", "c"))
        for marks in [[1, 2, 3], [1, 3], []]:
            before = copy.deepcopy((ringed, marks))
            told = rank_deeds(ringed, marks)
            again = rank_deeds(ringed, marks)
            self.assertEqual(told, again)
            self.assertIsNot(told[1], again[1])
            self.assertIsNot(told[1], marks)
            told[1].append(9)
            self.assertEqual(rank_deeds(ringed, marks), again)
            self.assertEqual((ringed, marks), before)

    def test_is_ring_changes_nothing(self):
        book = read_book("deed a\ncall x a 1\ngive 0")
        marks = [1]
        ring = [1, 1]
        self.assertEqual([is_ring(book, marks, ring), is_ring(book, marks, ring)], [False, False])
        self.assertEqual((marks, ring), ([1], [1, 1]))


if __name__ == "__main__":
    unittest.main()

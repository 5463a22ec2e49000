import copy
import itertools
import random
import unittest

from callfold.books import calls_of, made_book
from callfold.errors import TooMany
from callfold.freest import freest_marks, table_judged
from callfold.gains import gain_of, mark_gain
from callfold.rings import rank_deeds
from callfold.texts import read_book
from shapes import all_marks, call, deed, drawn_book, drawn_counts

# Each deed has one own name. 1 and 2 close a ring, so do 1, 3 and 4, and 5 by itself.
THREE = read_book("deed a\ncall x b 1\ngive x\n"
                  "deed b\ncall x a 2\ncall x c 3\ngive 0\n"
                  "deed c\ncall x a 4\ncall x c 5\ngive 0")
COUNTS = {1: 4, 2: 3, 3: 2, 4: 5, 5: 100}
# Gains at 3: 1 has 8, 2 has 6, 3 has 4, 4 has 10, 5 has 200.
TABLE = [((), 0), ((0,), 0), ((0, 1), 8), ((0, 1, 2), 20), ((0, 2), 10), ((1,), 0), ((1, 2), 4), ((2,), 0)]


def sets_of(members):
    for many in range(len(members) + 1):
        yield from itertools.combinations(members, many)


def most_gain_as_told(book, counts, price, places):
    """The most gain of marks that close no ring, of calls that stand in these deeds and call one of them."""
    names = [book[place][0] for place in places]
    marks = []
    for place in places:
        marks.extend(mark for mark, called in calls_of(book[place]) if called in names)
    found = [gain_of(book, counts, price, list(chosen)) for chosen in sets_of(sorted(marks))
             if rank_deeds(book, list(chosen))[0] == "ranks"]
    return max(found)


def is_table_as_told(book, counts, price, gain, table):
    """Point 21, word by word."""
    if [places for places, number in table] != sorted(sets_of(range(len(book)))):
        return False
    rows = dict(table)
    for places, number in table:
        sums = [0] if not places else []
        for place in places:
            others = tuple(other for other in places if other != place)
            names = [book[other][0] for other in others]
            above = [max(0, mark_gain(book, counts, price, mark)) for mark, called in calls_of(book[place])
                     if called in names]
            sums.append(rows[others] + sum(above))
        if number != max(sums):
            return False
    return rows[tuple(range(len(book)))] == gain


class Freest(unittest.TestCase):
    def freest(self, book, counts, price):
        """Holds what is told against all sets of marks, and lets its table be judged."""
        told = freest_marks(book, counts, price)
        gain, marks, table = told
        self.assertIs(type(told), tuple)
        self.assertIs(type(marks), list)
        self.assertIs(type(table), list)
        self.assertEqual(marks, sorted(set(marks)))
        self.assertEqual(rank_deeds(book, marks)[0], "ranks")
        self.assertEqual(gain_of(book, counts, price, marks), gain)
        self.assertEqual(table, sorted(table))
        self.assertEqual([places for places, number in table], sorted(sets_of(range(len(book)))))
        for places, number in table:
            self.assertEqual(number, most_gain_as_told(book, counts, price, places))
        self.assertEqual(dict(table)[tuple(range(len(book)))], gain)
        self.assertIs(table_judged(book, counts, price, gain, table), True)
        self.assertTrue(is_table_as_told(book, counts, price, gain, table))
        return told

    def test_rings(self):
        self.assertEqual(self.freest(THREE, COUNTS, 3), (20, [2, 3, 4], TABLE))

    def test_no_gain_above_0(self):
        for price in [0, 1]:
            told = self.freest(THREE, COUNTS, price)
            self.assertEqual(told[0], 0)
            self.assertEqual(gain_of(THREE, COUNTS, price, told[1]), 0)

    def test_one_deed(self):
        self.assertEqual(self.freest(read_book("deed a\ngive 0"), {}, 9), (0, [], [((), 0), ((0,), 0)]))
        self.assertEqual(self.freest(read_book("deed a\ncall x a 3\ngive 0"), {3: 9}, 9), (0, [], [((), 0), ((0,), 0)]))

    def test_unreached_deeds_count_too(self):
        book = read_book("deed a\ngive 0\ndeed b\ncall x c 7\ngive 0\ndeed c\ngive 0")
        self.assertEqual(self.freest(book, {7: 2}, 5)[:2], (10, [7]))

    def test_several_marks_between_two_deeds(self):
        book = read_book("deed a\ncall x b 1\ncall x b 2\ngive 0\ndeed b\ncall x a 3\ncall x a 4\ngive 0")
        self.assertEqual(self.freest(book, {1: 5, 2: 5, 3: 4, 4: 7}, 2)[:2], (11, [3, 4]))
        self.assertEqual(self.freest(book, {1: 5, 2: 5, 3: 4, 4: 5}, 2)[:2], (10, [1, 2]))

    def test_marks_rise_though_their_calls_do_not(self):
        book = read_book("deed a\ncall x b 9\ncall x b 2\ngive 0\ndeed b\ncall x c 5\ngive 0\ndeed c\ngive 0")
        self.assertEqual(self.freest(book, {9: 1, 2: 1, 5: 1}, 3)[:2], (7, [2, 5, 9]))

    def test_six_deeds_and_ten_calls(self):
        deeds = [deed(name, (), []) for name in "abcdef"]
        rows = {"a": [call(0, "b"), call(1, "c")], "b": [call(2, "a"), call(3, "d")], "c": [call(4, "a")],
                "d": [call(5, "e"), call(6, "b")], "e": [call(7, "f"), call(8, "a")], "f": [call(9, "d")]}
        book = made_book([deed(one[0], (), rows[one[0]]) for one in deeds])
        told = self.freest(book, {mark: 1 + mark * 3 % 7 for mark in range(10)}, 4)
        self.assertEqual(len(told[2]), 64)

    def test_the_seventh_deed(self):
        for many in [7, 8]:
            book = made_book([deed(name) for name in "abcdefgh"[:many]])
            with self.assertRaises(TooMany):
                freest_marks(book, {}, 3)
            with self.assertRaises(TooMany):
                table_judged(book, {}, 3, 0, [])
            with self.assertRaises(TooMany):
                table_judged(book, {}, 3, 0, [((), 0)])

    def test_drawn_books(self):
        chance = random.Random(211)
        ringed = 0
        for _ in range(150):
            book = drawn_book(chance, most_deeds=4, most_calls=7, back=0.5)
            counts = drawn_counts(chance, book)
            price = chance.choice([1, 3, 4, 10])
            self.freest(book, counts, price)
            ringed += rank_deeds(book, all_marks(book))[0] == "ring"
        self.assertGreater(ringed, 50)


class Judged(unittest.TestCase):
    def judged(self, wanted, gain, table):
        self.assertIs(table_judged(THREE, COUNTS, 3, gain, table), wanted)

    def test_a_table_made_by_hand(self):
        self.judged(True, 20, list(TABLE))
        self.assertTrue(is_table_as_told(THREE, COUNTS, 3, 20, TABLE))

    def test_another_gain(self):
        for gain in [19, 21, 0, -20, 10 ** 5000]:
            self.judged(False, gain, list(TABLE))

    def test_a_number_more_or_less(self):
        for place, (places, number) in enumerate(TABLE):
            for other in [number + 1, number - 1, -number - 1, 10 ** 5000]:
                table = TABLE[:place] + [(places, other)] + TABLE[place + 1:]
                self.judged(False, 20, table)
                self.judged(False, other, table)

    def test_numbers_that_fit_one_another_but_not_the_book(self):
        # All rows of two and of three deeds one more than they should be: each follows from those of fewer.
        self.judged(False, 21, [(places, number + (len(places) > 1)) for places, number in TABLE])
        self.judged(False, 25, [(places, number + 5) for places, number in TABLE])

    def test_a_row_left_out(self):
        for place in range(len(TABLE)):
            self.judged(False, 20, TABLE[:place] + TABLE[place + 1:])

    def test_a_row_twice(self):
        for place in range(len(TABLE)):
            self.judged(False, 20, TABLE[:place] + [TABLE[place]] + TABLE[place:])
            self.judged(False, 20, TABLE + [TABLE[place]])

    def test_a_row_in_another_ones_place(self):
        for place in range(len(TABLE)):
            self.judged(False, 20, TABLE[:place] + [TABLE[place - 1]] + TABLE[place + 1:])

    def test_rows_exchanged(self):
        for one, other in itertools.combinations(range(len(TABLE)), 2):
            table = list(TABLE)
            table[one], table[other] = table[other], table[one]
            self.judged(False, 20, table)
        self.judged(False, 20, sorted(TABLE, key=lambda row: len(row[0])))
        self.judged(False, 20, list(reversed(TABLE)))

    def test_places_turned_about(self):
        for place, (places, number) in enumerate(TABLE):
            for other in itertools.permutations(places):
                if other != places:
                    self.judged(False, 20, TABLE[:place] + [(other, number)] + TABLE[place + 1:])
                    self.judged(False, 20, sorted(TABLE[:place] + [(other, number)] + TABLE[place + 1:]))

    def test_places_that_the_book_has_not_or_twice(self):
        for places in [(3,), (0, 3), (0, 1, 2, 3), (-1,), (0, 0), (2, 2), (10 ** 5000,)]:
            for number in [0, 20]:
                self.judged(False, 20, TABLE + [(places, number)])
                self.judged(False, 20, sorted(TABLE + [(places, number)]))
                self.judged(False, 20, TABLE[:-1] + [(places, number)])

    def test_no_rows(self):
        self.judged(False, 20, [])
        self.judged(False, 0, [])
        self.assertIs(table_judged(read_book("deed a\ngive 0"), {}, 3, 0, [((), 0)]), False)
        self.assertIs(table_judged(read_book("deed a\ngive 0"), {}, 3, 0, [((), 0), ((0,), 0)]), True)

    def test_a_table_of_another_book(self):
        for counts in [{**COUNTS, 1: 5}, {**COUNTS, 4: 4}]:
            table = freest_marks(THREE, counts, 3)[2]
            self.assertEqual(table_judged(THREE, COUNTS, 3, dict(table)[0, 1, 2], table), table == TABLE)
        self.assertIs(table_judged(THREE, COUNTS, 4, 20, list(TABLE)), False)
        # What lies behind no gain changes no row: 5 goes round by itself.
        self.assertIs(table_judged(THREE, {**COUNTS, 5: 0}, 3, 20, list(TABLE)), True)

    def test_drawn_tables(self):
        chance = random.Random(212)
        seen = {True: 0, False: 0}
        for _ in range(400):
            book = drawn_book(chance, most_deeds=3, most_calls=5, back=0.5)
            counts = drawn_counts(chance, book)
            gain, marks, table = freest_marks(book, counts, 4)
            if chance.random() < 0.7:
                place = chance.randrange(len(table))
                table[place] = (table[place][0], table[place][1] + chance.choice([-1, 0, 1]))
            gain += chance.choice([0, 0, 0, 1])
            told = table_judged(book, counts, 4, gain, table)
            self.assertIs(told, is_table_as_told(book, counts, 4, gain, table))
            seen[told] += 1
        self.assertGreater(min(seen.values()), 100)


class Told(unittest.TestCase):
    def test_what_is_handed_in_stays_and_what_is_told_is_new(self):
        counts = dict(COUNTS)
        before = copy.deepcopy((THREE, counts))
        told = freest_marks(THREE, counts, 3)
        again = freest_marks(THREE, counts, 3)
        self.assertEqual(told, again)
        lists = [told[1], told[2], again[1], again[2]]
        self.assertEqual(len({id(one) for one in lists}), 4)
        told[1].append(9)
        told[2].clear()
        self.assertEqual(again, (20, [2, 3, 4], TABLE))
        self.assertEqual(freest_marks(THREE, counts, 3), again)
        table = list(TABLE)
        self.assertEqual([table_judged(THREE, counts, 3, 20, table) for _ in range(2)], [True, True])
        self.assertEqual(table, TABLE)
        self.assertEqual((THREE, counts), before)


if __name__ == "__main__":
    unittest.main()

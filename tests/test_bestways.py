import copy
import itertools
import random
import unittest

from callfold.bestways import best_ways, ways_judged
from callfold.books import made_book, own_names, rows_of
from callfold.errors import Called, TooMany
from callfold.gains import time_of
from callfold.texts import read_book
from callfold.ways import fold_ways, gone_ways
from shapes import call, call_rows_by_mark, deed, drawn_book_of_ways, drawn_done_runs, num

SAY_ONE = ("say", num(1))

# Own names and rows: b 1 and 1, c 0 and 2, d 2 and 1.
BOOK = read_book("deed a\ncall x b 1\ncall x c 2\nturn 3\ncall x d 3 1\nend\ngive 0\n"
                 "deed b\ncall y c 4\ngive 0\n"
                 "deed c\nsay 1\nsay 2\ngive 0\n"
                 "deed d p\nset q 1\ngive 0")
GONE = [([1], 1), ([1, 4], 1), ([2], 1), ([3], 3)]
# At a price of 5 the gains are 4, 5, 5, 9, and the weights 2, 2, 2, 3.
TABLE = [
    ([], [0, 0, 5, 9, 9, 14, 14, 18]),
    ([1], [0, 0, 4, 4, 9, 9, 9, 9]),
    ([1, 4], [0, 0, 5, 5, 5, 5, 5, 5]),
    ([2], [0, 0, 5, 5, 5, 5, 5, 5]),
    ([3], [0, 0, 0, 9, 9, 9, 9, 9]),
]


def weight_and_own(book, way):
    called = dict((one[0], one) for one in book)[call_rows_by_mark(book)[way[-1]][2]]
    return len(own_names(called)) + len(rows_of(called)), len(own_names(called))


class Plans:
    """All shut sets of gone ways, with their gains and weights."""

    def __init__(self, book, gone, price):
        self.ways = [tuple(way) for way, many in gone]
        self.gains = {(): 0}
        self.weights = {(): 0}
        for way, many in gone:
            weight, own = weight_and_own(book, way)
            self.weights[tuple(way)] = weight
            self.gains[tuple(way)] = many * (price - own)

    def shut_sets(self, ways, begun):
        """All sets of these that are shut behind a way, which may lack in them."""
        for many in range(len(ways) + 1):
            for chosen in itertools.combinations(ways, many):
                if all(way == begun or way[:-1] == begun[:-1] or way[:-1] in chosen for way in chosen):
                    yield chosen

    def most(self, way, room):
        """The most gain of shut ways that begin with this one, within a room."""
        if way:
            behind = [other for other in self.ways if other[:len(way)] == way]
        else:
            behind = self.ways
        found = []
        for chosen in self.shut_sets(behind, way or ("none",)):
            if sum(self.weights[one] for one in chosen) <= room:
                found.append(sum(self.gains[one] for one in chosen))
        return max(found)


def shares(room, many):
    """All ways to share a room out among so many."""
    if many == 0:
        yield ()
    elif many == 1:
        yield (room,)
    else:
        for first in range(room + 1):
            for rest in shares(room - first, many - 1):
                yield (first,) + rest


def is_table_as_told(book, gone, price, room, gain, table):
    """Point 24, word by word."""
    plans = Plans(book, gone, price)
    if [way for way, row in table] != sorted([[]] + [way for way, many in gone]):
        return False
    rows = {tuple(way): row for way, row in table}
    if any(len(row) != room + 1 for row in rows.values()):
        return False
    for way, row in rows.items():
        longer = [other for other in plans.ways if other[:-1] == way]
        for entry, place in zip(row, range(room + 1)):
            sums = [0] if way else []
            left = place - plans.weights[way]
            if left >= 0:
                for share in shares(left, len(longer)):
                    sums.append(plans.gains[way] + sum(rows[other][part] for other, part in zip(longer, share)))
            if entry != max(sums):
                return False
    return rows[()][room] == gain


class Best(unittest.TestCase):
    def best(self, book, gone, price, room, all_rows=True):
        """Holds what is told against all shut sets, and lets its table be judged."""
        told = best_ways(book, gone, price, room)
        gain, ways, table = told
        self.assertIs(type(told), tuple)
        plans = Plans(book, gone, price)
        keys = [tuple(way) for way in ways]
        self.assertEqual(ways, sorted(ways))
        self.assertEqual(len(set(keys)), len(keys))
        self.assertTrue(all(key in plans.ways and (len(key) == 1 or key[:-1] in keys) for key in keys))
        self.assertLessEqual(sum(plans.weights[key] for key in keys), room)
        self.assertEqual(sum(plans.gains[key] for key in keys), gain)
        self.assertEqual(gain, plans.most((), room))
        self.assertEqual([way for way, row in table], sorted([[]] + [way for way, many in gone]))
        for way, row in table:
            self.assertEqual(len(row), room + 1)
            if all_rows:
                self.assertEqual(row, [plans.most(tuple(way), place) for place in range(room + 1)])
        self.assertEqual(table[0][1][room], gain)
        self.assertIs(ways_judged(book, gone, price, room, gain, table), True)
        return told

    def test_by_hand(self):
        self.assertEqual(gone_ways(BOOK, [[]]), GONE)
        self.assertEqual(self.best(BOOK, GONE, 5, 7), (18, [[1], [1, 4], [3]], TABLE))

    def test_weights_at_the_room_one_below_and_one_above(self):
        gains = [self.best(BOOK, GONE, 5, room)[0] for room in range(12)]
        self.assertEqual(gains, [0, 0, 5, 9, 9, 14, 14, 18, 18, 23, 23, 23])
        self.assertEqual(self.best(BOOK, GONE, 5, 1)[1], [])
        self.assertEqual(self.best(BOOK, GONE, 5, 3)[1], [[3]])
        self.assertEqual(self.best(BOOK, GONE, 5, 9)[1], [[1], [1, 4], [2], [3]])
        self.assertEqual(self.best(BOOK, GONE, 5, 60, all_rows=False)[:2], (23, [[1], [1, 4], [2], [3]]))

    def test_a_way_within_that_pays_for_the_one_around_it(self):
        book = read_book("deed a\ncall x b 1 0 0 0\ngive 0\n"
                         "deed b p q r\nturn 9\ncall p c 2\nend\ngive 0\ndeed c\ngive 0")
        gone = gone_ways(book, [[]])
        self.assertEqual(gone, [([1], 1), ([1, 2], 9)])
        # At a price of 1 the gains are -2 and 9; at a price of 0 there is none above 0.
        self.assertEqual(self.best(book, gone, 1, 4)[:2], (0, []))
        self.assertEqual(self.best(book, gone, 1, 5)[:2], (7, [[1], [1, 2]]))
        self.assertEqual(self.best(book, gone, 0, 5)[0], 0)

    def test_gains_below_0(self):
        book = read_book("deed a\ncall x b 1 1 2\ngive 0\ndeed b p q\ncall p c 2\ngive 0\ndeed c\ngive n")
        gone = gone_ways(book, [[]])
        self.assertEqual(self.best(book, gone, 0, 9)[:2], (0, []))
        self.assertEqual(self.best(book, gone, 1, 9)[:2], (0, []))

    def test_no_gone_ways(self):
        for room in [0, 3, 60]:
            self.assertEqual(self.best(BOOK, [], 5, room), (0, [], [([], [0] * (room + 1))]))

    def test_no_weight(self):
        book = read_book("deed a\ncall x b 1\ncall x b 2\ngive 0\ndeed b\ngive 0")
        gone = gone_ways(book, [[]])
        self.assertEqual(self.best(book, gone, 5, 0), (10, [[1], [2]], [([], [10]), ([1], [5]), ([2], [5])]))

    def test_twelve_ways(self):
        book = made_book([deed("a", (), [call(mark, "b") for mark in range(3)]),
                          deed("b", (), [call(mark, "c") for mark in range(3, 6)]), deed("c", (), [SAY_ONE])])
        gone = gone_ways(book, [[]])
        self.assertEqual(len(gone), 12)
        for room in [0, 4, 9, 13]:
            self.best(book, gone, 5, room, all_rows=False)

    def test_the_thirteenth(self):
        book = read_book("deed a p\ncall x b 1 p\ngive x\ndeed b n\nwhen n\ncall x b 2 (n-1)\nelse\nend\ngive x")
        self.assertEqual(len(gone_ways(book, [[11]])), 12)
        gain, ways, table = best_ways(book, gone_ways(book, [[11]]), 5, 60)
        self.assertEqual(gain, 3 * 12)
        self.assertIs(ways_judged(book, gone_ways(book, [[11]]), 5, 60, gain, table), True)
        gone = gone_ways(book, [[12]])
        self.assertEqual(len(gone), 13)
        with self.assertRaises(TooMany):
            best_ways(book, gone, 5, 60)
        with self.assertRaises(TooMany):
            ways_judged(book, gone, 5, 60, gain, table)
        with self.assertRaises(TooMany):
            ways_judged(book, gone, 5, 60, 0, [])

    def test_called_ahead_of_too_many(self):
        book = read_book("deed a p\ncall x b 1 p\ngive x\ndeed b n\nwhen n\ncall x b 2 (n-1)\nelse\nend\ngive x\n"
                         "deed c\ncall x a 7 1\ngive 0")
        for many in [0, 1, 13, 20]:
            gone = [([1] + [2] * place, 1) for place in range(many)]
            with self.assertRaises(Called):
                best_ways(book, gone, 5, 9)
            with self.assertRaises(Called):
                ways_judged(book, gone, 5, 9, 0, [([], [0] * 10)])

    def test_drawn_books(self):
        chance = random.Random(241)
        seen = 0
        for _ in range(500):
            book = drawn_book_of_ways(chance)
            runs = drawn_done_runs(chance, book, 3)
            gone = gone_ways(book, runs)
            if 0 < len(gone) <= 8:
                price = chance.choice([0, 2, 3, 5, 20])
                room = chance.choice([0, 3, 6, 9, 15])
                gain, ways, table = self.best(book, gone, price, room)
                folded = fold_ways(book, ways)
                self.assertEqual(time_of(book, runs, price) - time_of(folded, runs, price), gain)
                seen += gain > 0 and len(gone) > 1
        self.assertGreater(seen, 15)


class Judged(unittest.TestCase):
    def judged(self, wanted, gain, table):
        self.assertIs(ways_judged(BOOK, GONE, 5, 7, gain, table), wanted)

    def table_with(self, place, way=None, row=None):
        table = copy.deepcopy(TABLE)
        table[place] = (table[place][0] if way is None else way, table[place][1] if row is None else row)
        return table

    def test_a_table_made_by_hand(self):
        self.judged(True, 18, copy.deepcopy(TABLE))
        self.assertTrue(is_table_as_told(BOOK, GONE, 5, 7, 18, TABLE))

    def test_another_gain(self):
        for gain in [17, 19, 0, -18, 23, 10 ** 5000]:
            self.judged(False, gain, copy.deepcopy(TABLE))

    def test_an_entry_more_or_less(self):
        for place, (way, row) in enumerate(TABLE):
            for at, entry in enumerate(row):
                for other in [entry + 1, entry - 1, 10 ** 5000]:
                    table = self.table_with(place, row=row[:at] + [other] + row[at + 1:])
                    self.judged(False, 18, table)
                    self.judged(False, table[0][1][-1] if place else other, table)

    def test_an_entry_too_many_or_too_few(self):
        for place, (way, row) in enumerate(TABLE):
            self.judged(False, 18, self.table_with(place, row=row + row[-1:]))
            self.judged(False, 18, self.table_with(place, row=row[:-1]))
            self.judged(False, 18, self.table_with(place, row=row[1:]))
            self.judged(False, 18, self.table_with(place, row=[]))
        self.judged(False, 18, [(way, row + row[-1:]) for way, row in TABLE])
        self.judged(False, 14, [(way, row[:-1]) for way, row in TABLE])

    def test_a_row_left_out(self):
        for place in range(len(TABLE)):
            self.judged(False, 18, TABLE[:place] + TABLE[place + 1:])
        self.judged(False, 18, [])
        self.judged(False, 0, [])

    def test_a_row_twice(self):
        for place in range(len(TABLE)):
            self.judged(False, 18, TABLE[:place] + [TABLE[place]] + TABLE[place:])
            self.judged(False, 18, TABLE[:place] + [TABLE[place - 1]] + TABLE[place + 1:])

    def test_rows_exchanged(self):
        for one, other in itertools.combinations(range(len(TABLE)), 2):
            table = copy.deepcopy(TABLE)
            table[one], table[other] = table[other], table[one]
            self.judged(False, 18, table)
            if TABLE[one][1] != TABLE[other][1]:
                self.judged(False, 18, [(TABLE[place][0], row) for place, (way, row) in enumerate(table)])

    def test_a_row_of_a_way_that_is_not_gone(self):
        for way in [[1, 1], [2, 4], [3, 1], [4], [0], [100], [-1], [1, 4, 4], [10 ** 5000]]:
            for row in [[0] * 8, TABLE[2][1]]:
                self.judged(False, 18, sorted(TABLE + [(way, list(row))]))
                self.judged(False, 18, TABLE + [(way, list(row))])
            for place in range(len(TABLE)):
                self.judged(False, 18, self.table_with(place, way=way))

    def test_a_table_of_another_book(self):
        told = best_ways(BOOK, GONE, 6, 7)
        self.judged(False, told[0], told[2])
        told = best_ways(BOOK, [([1], 1), ([1, 4], 1), ([2], 1), ([3], 4)], 5, 7)
        self.judged(False, told[0], told[2])
        for room in [6, 8]:
            told = best_ways(BOOK, GONE, 5, room)
            self.judged(False, told[0], told[2])

    def test_drawn_tables(self):
        chance = random.Random(242)
        seen = {True: 0, False: 0}
        for _ in range(1500):
            book = drawn_book_of_ways(chance)
            gone = gone_ways(book, drawn_done_runs(chance, book, 2))
            if 0 < len(gone) <= 7:
                room = chance.choice([0, 4, 8])
                gain, ways, table = best_ways(book, gone, 4, room)
                if chance.random() < 0.7:
                    row = chance.choice(table)[1]
                    row[chance.randrange(len(row))] += chance.choice([-1, 0, 1])
                gain += chance.choice([0, 0, 0, 1])
                told = ways_judged(book, gone, 4, room, gain, table)
                self.assertIs(told, is_table_as_told(book, gone, 4, room, gain, table))
                seen[told] += 1
        self.assertGreater(min(seen.values()), 100)


class Told(unittest.TestCase):
    def test_what_is_handed_in_stays_and_what_is_told_is_new(self):
        gone = copy.deepcopy(GONE)
        told = best_ways(BOOK, gone, 5, 7)
        again = best_ways(BOOK, gone, 5, 7)
        self.assertEqual(told, again)
        lists = [gone] + [way for way, many in gone]
        for one in (told, again):
            lists.extend([one[1], one[2]] + one[1])
            for way, row in one[2]:
                lists.extend([way, row])
        self.assertEqual(len({id(one) for one in lists}), len(lists))
        for way in told[1]:
            way.append(9)
        told[1].append(9)
        for way, row in told[2]:
            way.append(9)
            row.append(9)
        told[2].append(9)
        self.assertEqual(again, (18, [[1], [1, 4], [3]], TABLE))
        self.assertEqual(best_ways(BOOK, gone, 5, 7), again)
        self.assertEqual(gone, GONE)

    def test_the_judge_changes_nothing(self):
        gone = copy.deepcopy(GONE)
        table = copy.deepcopy(TABLE)
        self.assertEqual([ways_judged(BOOK, gone, 5, 7, 18, table) for _ in range(2)], [True, True])
        self.assertEqual((gone, table), (GONE, TABLE))


if __name__ == "__main__":
    unittest.main()

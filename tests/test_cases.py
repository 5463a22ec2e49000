import copy
import itertools
import random
import unittest

from callfold.books import calls_of, deed_of, made_book, own_names, rows_of
from callfold.casejudge import cases_judged
from callfold.cases import best_marks, least_size
from callfold.errors import NoMark, Ringed, TooMany
from callfold.folding import fold_book, folded_size
from callfold.gains import gain_of
from callfold.rings import is_ring, rank_deeds
from callfold.texts import read_book
from shapes import all_marks, call, deed, drawn_book, drawn_counts, num

SAY_ONE = ("say", num(1))

# Sizes: a 4, b 3, c 3, d 2; own names: of b one, of c none, of d one.
FOUR = "deed a\ncall x b 1\ncall x c 2\nsay 1\ngive x\n" \
       "deed b\ncall y c 3\nsay 2\ngive y\n" \
       "deed c\nsay 3\nsay 4\ngive 5\n" \
       "deed d\ncall z a 4\ngive z"


def sets_of(marks):
    for many in range(len(marks) + 1):
        for chosen in itertools.combinations(marks, many):
            yield list(chosen)


def spread(book, name, within):
    """How many rows the body folded by marks within has, and the calls left in it."""
    body = deed_of(book, name)
    many = len(rows_of(body))
    left = []
    for mark, called in calls_of(body):
        if mark in within:
            inner = spread(book, called, within)
            many += len(own_names(deed_of(book, called))) + inner[0]
            left.extend(inner[1])
        else:
            left.append((mark, called))
    return many, left


def least_size_as_told(book, within, without):
    standing = []
    waiting = [book[0][0]]
    size = 0
    while waiting:
        name = waiting.pop()
        if name not in standing:
            standing.append(name)
            many, left = spread(book, name, within)
            size += 1 + many
            waiting.extend(called for mark, called in left if mark in without)
    return size


def drawn_cases(seed, many, **form):
    """Books with a case whose marks in close no ring."""
    chance = random.Random(seed)
    for _ in range(many):
        book = drawn_book(chance, **form)
        sides = {mark: chance.choice("ioo-") for mark in all_marks(book)}
        within = [mark for mark in all_marks(book) if sides[mark] == "i"]
        without = [mark for mark in all_marks(book) if sides[mark] == "o"]
        if rank_deeds(book, within)[0] == "ranks":
            yield chance, book, within, without


class LeastSizes(unittest.TestCase):
    book = read_book(FOUR)

    def least(self, wanted, within, without):
        self.assertEqual(least_size(self.book, within, without), wanted)
        self.assertEqual(least_size_as_told(self.book, within, without), wanted)

    def test_all_open(self):
        self.least(4, [], [])

    def test_nothing_within(self):
        self.least(7, [], [1])
        self.least(7, [], [2])
        self.least(10, [], [1, 2])
        self.least(10, [], [1, 3])
        self.least(10, [], [1, 2, 3, 4])

    def test_out_in_a_deed_that_does_not_stand(self):
        self.least(4, [], [3])
        self.least(4, [], [4])
        self.least(7, [], [2, 3])

    def test_nothing_without(self):
        self.least(7, [1], [])
        self.least(6, [2], [])
        self.least(4, [3], [])
        self.least(9, [1, 3], [])
        self.least(11, [1, 2, 3], [])

    def test_a_call_that_is_out_within_a_folded_body(self):
        self.least(10, [1], [3])
        self.least(10, [1], [2, 3])
        self.least(12, [1, 2], [3])

    def test_a_deed_that_is_called_by_open_marks_alone(self):
        # b stands by no call that is out; c is called in b alone by one that is.
        self.least(4, [], [3])
        self.least(6, [2], [3])
        self.least(4 + 5, [3], [1])

    def test_all_decided_is_the_folded_size(self):
        for within in sets_of(all_marks(self.book)):
            if rank_deeds(self.book, within)[0] == "ranks":
                without = [mark for mark in all_marks(self.book) if mark not in within]
                self.assertEqual(least_size(self.book, within, without), folded_size(self.book, within))

    def test_a_ring_of_calls_that_are_out(self):
        book = read_book("deed a\ncall x b 1\ngive 0\ndeed b\ncall x a 2\ncall x b 3\ngive 0")
        self.assertEqual(least_size(book, [], [1, 2, 3]), 5)
        self.assertEqual(least_size(book, [1], [2, 3]), 5 + 3)
        self.assertEqual(least_size(book, [1], [2]), 5)
        self.assertEqual(least_size(book, [2], [1, 3]), 2 + 5)

    def test_no_calls(self):
        self.assertEqual(least_size(read_book("deed a\nsay 1\ngive 0\ndeed b\ngive 0"), [], []), 2)

    def test_drawn_books(self):
        for chance, book, within, without in drawn_cases(201, 500, most_deeds=6, most_calls=9, back=0.2):
            self.assertEqual(least_size(book, within, without), least_size_as_told(book, within, without))

    def test_no_marks_of_the_case_have_a_lesser_folded_size(self):
        compared = 0
        for chance, book, within, without in drawn_cases(202, 400, most_deeds=5, most_calls=6, back=0.2):
            least = least_size(book, within, without)
            for marks in sets_of([mark for mark in all_marks(book) if mark not in without]):
                if set(within) <= set(marks) and rank_deeds(book, marks)[0] == "ranks":
                    self.assertLessEqual(least, folded_size(book, marks))
                    compared += 1
        self.assertGreater(compared, 300)

    def test_however_great(self):
        deeds = []
        for place in range(41):
            rows = [call(2 * place, "d" + "a" * (place + 1)), call(2 * place + 1, "d" + "a" * (place + 1))]
            deeds.append(deed("d" + "a" * place, (), rows if place < 40 else []))
        book = made_book(deeds)
        rows = 0
        for place in range(40):
            rows = 2 + 2 * (rows + (0 if place == 0 else 1))
        self.assertEqual(least_size(book, list(range(80)), []), 1 + rows)


class LeastSizesRefused(unittest.TestCase):
    book = read_book("deed a\ncall x b 1\ncall x c 4\ngive 0\ndeed b\ncall x a 2\ngive 0\ndeed c\ncall x c 3\ngive 0")

    def test_no_mark_in_both_lists(self):
        for marks in [[0], [5], [-1], [100], [4, 1], [1, 1], [1, 4, 7], [10 ** 5000]]:
            for within, without in [(marks, []), ([], marks), (marks, [2]), ([2], marks), (marks, marks)]:
                with self.assertRaises(NoMark):
                    least_size(self.book, within, without)

    def test_ringed_by_those_within_alone(self):
        for within, without in [([3], []), ([1, 2], [3]), ([1, 2, 3], [4]), ([1, 3], [2])]:
            with self.assertRaises(Ringed) as caught:
                least_size(self.book, within, without)
            self.assertTrue(is_ring(self.book, within, caught.exception.ring))
        for within, without in [([], [1, 2, 3, 4]), ([1], [2]), ([2], [1, 3])]:
            self.assertEqual(least_size(self.book, within, without), least_size_as_told(self.book, within, without))

    def test_no_mark_ahead_of_ringed(self):
        for within, without in [([3], [0]), ([3], [4, 1]), ([3], [4, 4]), ([1, 2], [5]), ([1, 2, 5], [])]:
            with self.assertRaises(NoMark):
                least_size(self.book, within, without)


def most_gain_as_told(book, counts, price, size):
    """The most gain of marks that fit, None where none fit."""
    best = None
    for marks in sets_of(all_marks(book)):
        if rank_deeds(book, marks)[0] == "ranks" and folded_size(book, marks) <= size:
            gain = gain_of(book, counts, price, marks)
            best = gain if best is None else max(best, gain)
    return best


class BestMarks(unittest.TestCase):
    def best(self, book, counts, price, size):
        """Holds what is told against all sets of marks, and lets its tree be judged."""
        told = best_marks(book, counts, price, size)
        most = most_gain_as_told(book, counts, price, size)
        if most is None:
            self.assertEqual((told[0], len(told)), ("none", 2))
            self.assertIs(cases_judged(book, counts, price, size, None, told[1]), True)
        else:
            self.assertEqual((told[:2], len(told)), (("best", most), 4))
            marks = told[2]
            self.assertIs(type(marks), list)
            self.assertEqual(marks, sorted(set(marks)))
            self.assertLessEqual(folded_size(book, marks), size)
            self.assertEqual(gain_of(book, counts, price, marks), most)
            self.assertIs(cases_judged(book, counts, price, size, most, told[3]), True)
            self.assertIs(cases_judged(book, counts, price, size, most - 1, told[3]), False)
        return told

    def test_a_small_book_at_all_sizes(self):
        book = read_book(FOUR)
        seen = {}
        for size in range(20):
            for price in [0, 1, 2, 9]:
                told = self.best(book, {1: 3, 2: 5, 3: 4, 4: 7}, price, size)
                seen[size, price] = told[:3] if told[0] == "best" else "none"
        # 4 stands in an unreached deed: its gain costs no rows.
        self.assertEqual(seen[9, 9], "none")
        self.assertEqual(seen[10, 9], ("best", 24 + 56, [1, 4]))
        self.assertEqual(seen[11, 9], ("best", 24 + 45 + 36 + 56, [1, 2, 3, 4]))

    def test_sizes_at_just_below_and_just_above(self):
        book = read_book("deed a\ncall x b 1\ngive x\ndeed b\nsay 1\nsay 2\ngive 0")
        counts = {1: 2}
        self.assertEqual([folded_size(book, marks) for marks in [[], [1]]], [5, 4])
        self.assertEqual(self.best(book, counts, 3, 3)[0], "none")
        self.assertEqual(self.best(book, counts, 3, 4)[:3], ("best", 6, [1]))
        self.assertEqual(self.best(book, counts, 3, 5)[:3], ("best", 6, [1]))
        self.assertEqual(self.best(book, counts, 3, 2000)[:3], ("best", 6, [1]))

    def test_gains_below_0(self):
        book = read_book("deed a\ncall x b 1\ngive x\ndeed b\nset y 1\nset z 2\ngive 0")
        self.assertEqual([folded_size(book, marks) for marks in [[], [1]]], [5, 6])
        self.assertEqual(self.best(book, {1: 2}, 1, 6)[:3], ("best", 0, []))
        self.assertEqual(self.best(book, {1: 2}, 1, 5)[:3], ("best", 0, []))
        self.assertEqual(self.best(book, {1: 2}, 1, 4)[0], "none")
        two = read_book("deed a\ncall x b 1\ngive x\ndeed b\ncall x c 2\ngive 0\ndeed c\nsay 1\ngive 0")
        self.assertEqual([folded_size(two, marks) for marks in [[], [1], [2], [1, 2]]], [6, 6, 5, 5])
        self.assertEqual(self.best(two, {1: 4, 2: 9}, 0, 5)[:3], ("best", 0, [2]))
        self.assertEqual(self.best(two, {1: 4, 2: 9}, 0, 4)[0], "none")

    def test_none(self):
        book = read_book(FOUR)
        for size in [0, 1, 5]:
            self.assertEqual(self.best(book, {1: 3, 2: 5, 3: 4, 4: 7}, 4, size)[0], "none")

    def test_rings_do_not_fit(self):
        book = read_book("deed a\ncall x b 1\ngive x\ndeed b\ncall x a 2\ncall x b 3\ngive 0")
        for size in [4, 5, 8, 20, 2000]:
            told = self.best(book, {1: 3, 2: 9, 3: 500}, 9, size)
            self.assertNotIn(3, told[2] if told[0] == "best" else [])
        self.assertEqual(self.best(book, {1: 3, 2: 9, 3: 500}, 9, 2000)[:3], ("best", 72, [2]))

    def test_no_calls(self):
        book = read_book("deed a\nsay 1\ngive 0")
        self.assertEqual(self.best(book, {}, 5, 2)[:3], ("best", 0, []))
        self.assertEqual(self.best(book, {}, 5, 1), ("none", ("big",)))

    def test_eight_calls(self):
        book = made_book([deed("a", (), [call(mark, "b") for mark in range(8)]), deed("b", (), [SAY_ONE] * 3)])
        counts = {mark: 1 + mark % 3 for mark in range(8)}
        for size in [8, 9, 12, 13, 16, 21, 24, 25, 30, 31, 33, 40]:
            self.best(book, counts, 5, size)

    def test_the_ninth_call(self):
        for many in [9, 10]:
            deeds = [deed("a", (), [call(mark, "b") for mark in range(many)]), deed("b")]
            for size in [0, 2000]:
                with self.assertRaises(TooMany):
                    best_marks(made_book(deeds), {mark: 1 for mark in range(many)}, 5, size)

    def test_the_ninth_call_in_an_unreached_deed(self):
        deeds = [deed("a", (), [call(mark, "b") for mark in range(8)]), deed("b"), deed("c", (), [call(50, "b")])]
        with self.assertRaises(TooMany):
            best_marks(made_book(deeds), {mark: 1 for mark in list(range(8)) + [50]}, 5, 100)

    def test_drawn_books(self):
        chance = random.Random(191)
        seen = {"best": 0, "none": 0}
        for _ in range(120):
            book = drawn_book(chance, most_deeds=5, most_calls=7, back=chance.choice([0, 0.2, 0.5]))
            counts = drawn_counts(chance, book)
            price = chance.choice([0, 1, 2, 3, 4, 20])
            sizes = [folded_size(book, marks) for marks in sets_of(all_marks(book))
                     if rank_deeds(book, marks)[0] == "ranks"]
            near = chance.choice(sizes)
            for size in {near - 1, near, near + 1, min(sizes), min(sizes) - 1, max(sizes)}:
                seen[self.best(book, counts, price, size)[0]] += 1
        self.assertGreater(min(seen.values()), 60)


class Told(unittest.TestCase):
    def lists_in(self, told):
        found = []
        for one in told:
            if isinstance(one, list):
                found.append(one)
            elif isinstance(one, tuple):
                found.extend(self.lists_in(one))
        return found

    def test_what_is_handed_in_stays_and_what_is_told_is_new(self):
        book = read_book("deed a\ncall x b 1\ncall x b 5\ngive x\ndeed b\ncall x a 2\ncall x b 3\ncall x b 4\ngive 0")
        counts = {3: 9, 1: 3, 2: 9, 5: 2, 4: 7}
        before = copy.deepcopy((book, counts))
        told = best_marks(book, counts, 9, 50)
        again = best_marks(book, counts, 9, 50)
        self.assertEqual(told, again)
        lists = self.lists_in(told) + self.lists_in(again)
        self.assertGreaterEqual(len(lists), 6)
        self.assertEqual(len({id(one) for one in lists}), len(lists))
        kept = copy.deepcopy(again)
        for one in self.lists_in(told):
            one.append(99)
        self.assertEqual(again, kept)
        self.assertEqual(best_marks(book, counts, 9, 50), kept)
        self.assertEqual((book, counts), before)

    def test_least_size_changes_nothing(self):
        book = read_book(FOUR)
        within = [1]
        without = [2, 3]
        self.assertEqual(least_size(book, within, without), least_size(book, within, without))
        self.assertEqual((within, without), ([1], [2, 3]))

    def test_told_marks_fold(self):
        book = read_book(FOUR)
        told = best_marks(book, {1: 3, 2: 5, 3: 4, 4: 7}, 9, 11)
        self.assertEqual(len(fold_book(book, told[2])), 1)


if __name__ == "__main__":
    unittest.main()

import copy
import random
import unittest

from callfold.books import calls_of, deed_of, made_book, own_names
from callfold.errors import BadRun, NoMark, TooDeep, TooLong, WrongCount
from callfold.folding import fold_book, folded_size
from callfold.gains import count_calls, gain_of, mark_gain, time_of
from callfold.placing import place_call
from callfold.rings import rank_deeds
from callfold.runs import run_book
from callfold.texts import read_book
from shapes import all_marks, call, deed, drawn_book, drawn_counts, drawn_done_runs, drawn_marks, num, turned

# main p breaks by 0, goes too deep by 1, does too many rounds by 2, makes too many calls by 3, else is done;
# marks 9 and 4 are called by values above 3 alone, 7 never.
MAIN = """deed main p
set q (1/p)
when (p=1)
call x down 30
else
end
when (p=2)
turn 9
call x rounds 31
end
else
end
when (p=3)
turn 9
call x calls 32
end
else
end
when (3<p)
call x leaf 9 p
turn p
call x leaf 4 x
end
else
end
give x
deed down
call x down 33
give x
deed rounds
turn 9
turn 9
say 1
end
end
give 0
deed calls
turn 9
turn 9
call x none 34
end
end
give 0
deed none
give 0
deed leaf n
set m (n+1)
give m
deed other
call x leaf 7 1
give x"""


class Counts(unittest.TestCase):
    book = read_book(MAIN)

    def test_each_mark_rising(self):
        counts = count_calls(self.book, [[4], [15], [4]])
        self.assertEqual(counts, {4: 4 + 5 + 4, 7: 0, 9: 3, 30: 0, 31: 0, 32: 0, 33: 0, 34: 0})
        self.assertEqual(list(counts), sorted(counts))

    def test_marks_that_do_not_rise_in_the_book(self):
        book = read_book("deed a\ncall x b 9\ncall x b 2\ncall x b 5\ngive 0\ndeed b\ngive 1")
        self.assertEqual(list(count_calls(book, [[]]).items()), [(2, 1), (5, 1), (9, 1)])

    def test_no_calls_and_no_runs(self):
        self.assertEqual(count_calls(read_book("deed a\ngive 1"), [[], []]), {})
        self.assertEqual(set(count_calls(self.book, []).values()), {0})

    def test_drawn_books(self):
        chance = random.Random(171)
        made = 0
        for _ in range(500):
            book = drawn_book(chance)
            runs = drawn_done_runs(chance, book, 6)
            if runs:
                told = count_calls(book, runs)
                self.assertEqual(list(told), all_marks(book))
                for mark in told:
                    self.assertEqual(told[mark], sum(run_book(book, values)[4].get(mark, 0) for values in runs))
                made += sum(told.values())
        self.assertGreater(made, 300)


class BadRuns(unittest.TestCase):
    book = read_book(MAIN)

    def bad(self, runs, number):
        for asked in [lambda: count_calls(self.book, runs), lambda: time_of(self.book, runs, 3)]:
            with self.assertRaises(BadRun) as caught:
                asked()
            self.assertEqual(caught.exception.run, number)
            self.assertIs(type(caught.exception.run), int)

    def test_a_run_that_breaks(self):
        self.assertEqual(run_book(self.book, [0])[0], "broken")
        self.bad([[0]], 0)
        self.bad([[4], [5], [0]], 2)

    def test_runs_that_are_refused(self):
        for values, error in [([1], TooDeep), ([2], TooLong), ([3], TooLong), ([], WrongCount), ([4, 4], WrongCount)]:
            with self.assertRaises(error):
                run_book(self.book, values)
        for values in [[1], [2], [3], [], [4, 4]]:
            self.bad([values], 0)
            self.bad([[4], values], 1)
            self.bad([[4], [5], [6], [7], [8], values], 5)

    def test_the_first_of_several(self):
        bad = [[0], [1], [2], [3], [], [5, 5]]
        chance = random.Random(172)
        for _ in range(40):
            runs = [chance.choice(bad) for _ in range(chance.randint(1, 3))]
            good = [[4]] * chance.randint(0, 3)
            self.bad(good + runs, len(good))
            self.bad(good + runs[:1] + [[4]] + runs[1:], len(good))


class Times(unittest.TestCase):
    def test_rows_and_price(self):
        book = read_book("deed a p\nturn p\ncall x b 5 x\nend\ngive x\ndeed b n\nsay n\ngive n")
        # Rows: the turn, and twice in each round.
        for price, times in [(0, [1, 7]), (1, [1, 10]), (10, [1, 37]), (1000, [1, 3007])]:
            self.assertEqual([time_of(book, [[values]], price) for values in [0, 3]], times)
            self.assertEqual(time_of(book, [[0], [3], [3]], price), times[0] + 2 * times[1])

    def test_of_none(self):
        for price in [0, 5, 1000]:
            self.assertEqual(time_of(read_book(MAIN), [], price), 0)

    def test_names_with_numbers_and_a_mark_several_times(self):
        book = read_book("deed a\ncall x b 1\ncall x b 2\ngive x\ndeed b\ncall y c 3\ngive y\ndeed c\nsay 1\ngive 2")
        folded = place_call(place_call(book, "a", 1), "a", 0)
        self.assertEqual(calls_of(folded[0]), [(3, "c"), (3, "c")])
        self.assertEqual(own_names(folded[0]), ["x"])
        self.assertEqual(time_of(book, [[]], 10), 2 + 2 + 2 + 10 * 4)
        self.assertEqual(time_of(folded, [[]], 10), 6 + 2 + 10 * 2)

    def test_deep_and_long_books(self):
        book = (deed("a", (), [turned(24, call(7, "b"))] + [("set", "x.1", num(1))] * 700 + [call(7, "b")]),
                deed("b", (), [("say", num(1))]))
        self.assertEqual(time_of(book, [[], []], 100), 2 * (24 + 1 + 700 + 2 + 200))


class MarkGains(unittest.TestCase):
    # Own names: of b none, of c one, of d four.
    book = read_book("deed a\ncall x b 3\ncall y c 1\ncall z d 2 1 2\ncall z a 8\ngive 0\n"
                     "deed b\nsay 1\ngive 2\ndeed c\ngive n\ndeed d p q\nset r s\ngive p")
    counts = {3: 10, 8: 0, 1: 4, 2: 5}

    def test_above_at_and_below_0(self):
        for price, gains in [(0, [-4, -20, 0, 0]), (1, [0, -15, 10, 0]), (3, [8, -5, 30, 0]), (4, [12, 0, 40, 0]),
                             (1000, [3996, 4980, 10000, 0])]:
            self.assertEqual([mark_gain(self.book, self.counts, price, mark) for mark in [1, 2, 3, 8]], gains)

    def test_counts_in_another_order_and_great_ones(self):
        other = {1: 4, 2: 5, 3: 10, 8: 1000000}
        self.assertEqual([mark_gain(self.book, other, 2, mark) for mark in [1, 2, 3]], [4, -10, 20])
        self.assertEqual(mark_gain(self.book, other, 1000, 8), 1000000 * 997)
        self.assertEqual(mark_gain(self.book, other, 0, 8), -3000000)

    def test_a_call_of_its_own_deed(self):
        self.assertEqual(mark_gain(self.book, {1: 0, 2: 0, 3: 0, 8: 2}, 10, 8), 14)

    def test_no_mark(self):
        for mark in [0, 4, 99, 100, -1, -8, 10 ** 5000]:
            with self.assertRaises(NoMark):
                mark_gain(self.book, self.counts, 5, mark)
        with self.assertRaises(NoMark):
            mark_gain(read_book("deed a\ngive 1"), {}, 5, 0)


class Gains(unittest.TestCase):
    book = MarkGains.book
    counts = MarkGains.counts

    def test_sums(self):
        self.assertEqual(gain_of(self.book, self.counts, 3, []), 0)
        self.assertEqual(gain_of(self.book, self.counts, 3, [2]), -5)
        self.assertEqual(gain_of(self.book, self.counts, 3, [1, 2, 3]), 33)

    def test_marks_that_close_a_ring(self):
        book = read_book("deed a\ncall x b 1\ngive x\ndeed b\ncall x a 2\ncall x b 3\ngive 1")
        counts = {1: 10, 2: 20, 3: 30}
        for marks, gain in [([3], 120), ([1, 2], 120), ([1, 2, 3], 240)]:
            self.assertEqual(rank_deeds(book, marks)[0], "ring")
            self.assertEqual(gain_of(book, counts, 5, marks), gain)

    def test_no_mark(self):
        for marks in [[0], [1, 4], [2, 1], [1, 1], [1, 2, 2], [-1, 1], [1, 2, 3, 8, 100], [10 ** 5000]]:
            with self.assertRaises(NoMark):
                gain_of(self.book, self.counts, 3, marks)

    def test_drawn_books(self):
        chance = random.Random(181)
        for _ in range(200):
            book = drawn_book(chance, back=0.4)
            counts = drawn_counts(chance, book)
            price = chance.randint(0, 8)
            marks = drawn_marks(chance, book)
            total = 0
            for one in book:
                for mark, called in calls_of(one):
                    gain = counts[mark] * (price - len(own_names(deed_of(book, called))))
                    self.assertEqual(mark_gain(book, counts, price, mark), gain)
                    total += gain if mark in marks else 0
            self.assertEqual(gain_of(book, counts, price, marks), total)

    def test_the_time_of_the_folded_book_is_less_by_just_the_gain(self):
        chance = random.Random(182)
        signs = {-1: 0, 0: 0, 1: 0}
        for _ in range(2000):
            book = drawn_book(chance)
            marks = drawn_marks(chance, book)
            if rank_deeds(book, marks)[0] == "ring" or folded_size(book, marks) > 800:
                continue
            runs = drawn_done_runs(chance, book, 4)
            price = chance.choice([0, 1, 2, 3, 4, 10])
            gain = gain_of(book, count_calls(book, runs), price, marks)
            folded = fold_book(book, marks)
            self.assertEqual(time_of(book, runs, price) - time_of(folded, runs, price), gain)
            signs[(gain > 0) - (gain < 0)] += 1
        self.assertGreater(min(signs.values()), 30)


class Told(unittest.TestCase):
    def test_what_is_handed_in_stays_and_what_is_told_is_new(self):
        book = read_book(MAIN)
        runs = [[4], [5]]
        counts = count_calls(book, runs)
        marks = [4, 9]
        before = copy.deepcopy((book, runs, counts, marks))
        again = count_calls(book, runs)
        self.assertEqual(again, counts)
        self.assertIsNot(again, counts)
        again[4] = 77
        self.assertEqual(count_calls(book, runs), counts)
        self.assertEqual(time_of(book, runs, 3), time_of(book, runs, 3))
        self.assertEqual(gain_of(book, counts, 3, marks), gain_of(book, counts, 3, marks))
        self.assertEqual(mark_gain(book, counts, 3, 4), mark_gain(book, counts, 3, 4))
        self.assertEqual((book, runs, counts, marks), before)

    def test_made_books_serve_too(self):
        book = made_book([deed("a", (), [call(0, "b")]), deed("b")])
        self.assertEqual(count_calls(book, [[]]), {0: 1})


if __name__ == "__main__":
    unittest.main()

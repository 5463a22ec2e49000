import copy
import itertools
import random
import unittest

from callfold.books import book_size, calls_of, deed_of, made_book, own_names, rows_of
from callfold.errors import BadRun, Called, NoWay, TooBig, TooDeep, TooLong
from callfold.gains import count_calls, time_of
from callfold.placing import place_call, tidy_book
from callfold.runs import run_book
from callfold.texts import book_text, read_book
from callfold.ways import fold_ways, gone_ways
from callfold.worths import worth_of
from shapes import call, deed, drawn_book_of_ways, drawn_done_runs, drawn_values, num

SAY_ONE = ("say", num(1))

# a calls b twice, b calls c, and c goes round by itself as often as its param tells.
ROUND = "deed a p\ncall x b 5 p\nturn p\ncall x b 3 1\nend\ngive x\n" \
        "deed b q\ncall y c 7 q\nwhen (1<q)\ncall y d 8\nelse\nend\ngive y\n" \
        "deed c n\nwhen n\ncall z c 1 (n-1)\nelse\nend\ngive z\n" \
        "deed d\ngive 6"


class Walker:
    """Runs a book by recursion, and counts the ways by which calls are made."""

    def __init__(self, book):
        self.book = book
        self.gone = {}

    def run(self, name, values, way=()):
        one = deed_of(self.book, name)
        held = dict(zip(one[1], values))
        self.do_rows(one[2], held, way)
        return worth_of(one[3], held)

    def do_rows(self, rows, held, way):
        for row in rows:
            if row[0] == "set":
                held[row[1]] = worth_of(row[2], held)
            elif row[0] == "call":
                longer = way + (row[4],)
                values = [worth_of(arg, held) for arg in row[3]]
                self.gone[longer] = self.gone.get(longer, 0) + 1
                held[row[1]] = self.run(row[2], values, longer)
            elif row[0] == "when":
                self.do_rows(row[2] if worth_of(row[1], held) else row[3], held, way)
            elif row[0] == "turn":
                for _ in range(worth_of(row[1], held) % 10):
                    self.do_rows(row[2], held, way)


def gone_as_told(book, runs):
    walker = Walker(book)
    for values in runs:
        walker.run(book[0][0], values)
    return sorted((list(way), many) for way, many in walker.gone.items())


def called_along(book, way):
    """The deed that the last mark of a way calls, the first one for []."""
    for one in book:
        for mark, called in calls_of(one):
            if way and mark == way[-1]:
                return deed_of(book, called)
    return book[0]


def placed_along(chance, book, ways):
    """The same by single placings, in an order by chance."""
    standing = [[mark] for mark, called in calls_of(book[0])]
    while True:
        places = [at for at, way in enumerate(standing) if way in ways]
        if not places:
            return book
        at = chance.choice(places)
        way = standing[at]
        standing[at:at + 1] = [way + [mark] for mark, called in calls_of(called_along(book, way))]
        book = place_call(book, book[0][0], at)


def drawn_ways(chance, book, most):
    """Shut ways, in an order by chance; they needn't be gone."""
    ways = []
    while len(ways) < most:
        begun = chance.choice([[]] + ways)
        marks = [mark for mark, called in calls_of(called_along(book, begun))]
        fresh = [begun + [mark] for mark in marks if begun + [mark] not in ways]
        if fresh:
            ways.append(chance.choice(fresh))
        elif chance.random() < 0.3:
            break
    chance.shuffle(ways)
    return ways


def weight(book, way):
    one = called_along(book, way)
    return len(own_names(one)) + len(rows_of(one))


class Gone(unittest.TestCase):
    book = read_book(ROUND)

    def test_of_one_run(self):
        self.assertEqual(gone_ways(self.book, [[0]]), [([5], 1), ([5, 7], 1)])
        self.assertEqual(gone_ways(self.book, [[2]]), [
            ([3], 2), ([3, 7], 2), ([3, 7, 1], 2),
            ([5], 1), ([5, 7], 1), ([5, 7, 1], 1), ([5, 7, 1, 1], 1), ([5, 8], 1),
        ])

    def test_of_several_runs(self):
        self.assertEqual(gone_ways(self.book, [[1], [2], [1], [0]]), [
            ([3], 4), ([3, 7], 4), ([3, 7, 1], 4),
            ([5], 4), ([5, 7], 4), ([5, 7, 1], 3), ([5, 7, 1, 1], 1), ([5, 8], 1),
        ])

    def test_by_turns(self):
        book = read_book("deed a\nturn 3\nturn 2\ncall x b 4\nend\nend\ngive 0\n"
                         "deed b\nturn 5\ncall y c 2\nend\ngive 0\ndeed c\ngive 1")
        self.assertEqual(gone_ways(book, [[]]), [([4], 6), ([4, 2], 30)])

    def test_numbers_of_two_figures_are_sorted_as_numbers(self):
        book = read_book("deed a\ncall x b 10\ncall x b 9\ncall x c 2\ngive 0\n"
                         "deed b\ncall x c 30\ngive 0\ndeed c\ngive 0")
        self.assertEqual(gone_ways(book, [[]]), [([2], 1), ([9], 1), ([9, 30], 1), ([10], 1), ([10, 30], 1)])

    def test_runs_that_make_no_calls(self):
        self.assertEqual(gone_ways(read_book("deed a\nsay 1\ngive 0"), [[], []]), [])
        book = read_book("deed a p\nwhen p\ncall x b 1\nelse\nend\ngive 0\ndeed b\ngive 0")
        self.assertEqual(gone_ways(book, [[0]]), [])
        self.assertEqual(gone_ways(book, [[0], [3]]), [([1], 1)])

    def test_no_runs(self):
        self.assertEqual(gone_ways(self.book, []), [])

    def test_long_ways(self):
        book = read_book("deed a p\ncall x b 1 p\ngive x\ndeed b n\nwhen n\ncall x b 2 (n-1)\nelse\nend\ngive x")
        self.assertEqual(gone_ways(book, [[18]]), [([1] + [2] * many, 1) for many in range(19)])

    def test_drawn_books(self):
        chance = random.Random(221)
        deep = 0
        for _ in range(400):
            book = drawn_book_of_ways(chance)
            runs = drawn_done_runs(chance, book, 4)
            told = gone_ways(book, runs)
            self.assertEqual(told, gone_as_told(book, runs))
            self.assertEqual(told, sorted(told))
            counts = dict.fromkeys(count_calls(book, runs), 0)
            for way, many in told:
                counts[way[-1]] += many
                deep += len(way) > 1
                self.assertTrue(len(way) == 1 or way[:-1] in [other for other, often in told])
            self.assertEqual(counts, count_calls(book, runs))
        self.assertGreater(deep, 60)


class GoneRefused(unittest.TestCase):
    book = read_book("deed a p\nset x (1/p)\nwhen (p=1)\ncall x b 1\nelse\nend\nwhen (p=2)\nturn 9\ncall x c 3\nend\n"
                     "else\nend\ngive 0\ndeed b\ncall x b 2\ngive 0\n"
                     "deed c\nturn 9\nturn 9\nsay 1\nend\nend\ngive 0")

    def test_bad_runs(self):
        with self.assertRaises(TooDeep):
            run_book(self.book, [1])
        with self.assertRaises(TooLong):
            run_book(self.book, [2])
        for values in [[0], [1], [2], [], [3, 3]]:
            for ahead in [[], [[3]], [[3], [4], [5], [3], [3]]]:
                for behind in [[], [[3]], [[0]]]:
                    with self.assertRaises(BadRun) as caught:
                        gone_ways(self.book, ahead + [values] + behind)
                    self.assertEqual(caught.exception.run, len(ahead))

    def test_called(self):
        for text in ["deed a\ncall x a 1\ngive 0", "deed a\ncall x b 1\ngive 0\ndeed b\ncall x a 2\ngive 0",
                     "deed a\ngive 0\ndeed b\ncall x a 2\ngive 0",
                     "deed a\nwhen 0\nturn 0\ncall x a 1\nend\nelse\nend\ngive 0"]:
            with self.assertRaises(Called):
                gone_ways(read_book(text), [[]])

    def test_called_ahead_of_bad_run(self):
        book = read_book("deed a p\nsay (1/p)\ngive 0\ndeed b\ncall x a 2 1\ngive 0")
        for runs in [[[0]], [[]], [[1]], []]:
            with self.assertRaises(Called):
                gone_ways(book, runs)


class Folded(unittest.TestCase):
    text = "deed a p\ncall x b 1 p\ncall x b 2 (x+1)\ngive x\ndeed b q\ncall r c 3 q\ngive (r+q)\n" \
           "deed c s\nsay s\ngive (s*2)\ndeed d\ncall x c 9 1\ngive 0"

    def folded(self, ways, first):
        book = read_book(self.text)
        rest = self.text[self.text.index("deed b"):]
        for order in itertools.permutations(ways):
            told = fold_ways(book, list(order))
            self.assertEqual(book_text(told), first + "\n" + rest)
            self.assertEqual(book_size(told), book_size(book) + sum(weight(book, way) for way in ways))

    def test_along_no_ways(self):
        self.folded([], "deed a p\ncall x b 1 p\ncall x b 2 (x+1)\ngive x")

    def test_along_one_way(self):
        self.folded([[1]],
                    "deed a p\nset q.1 p\nset r.1 0\ncall r.1 c 3 q.1\nset x (r.1+q.1)\ncall x b 2 (x+1)\ngive x")
        self.folded([[2]],
                    "deed a p\ncall x b 1 p\nset q.1 (x+1)\nset r.1 0\ncall r.1 c 3 q.1\nset x (r.1+q.1)\ngive x")

    def test_ways_within_ways(self):
        # 3 gives way by one way alone: it still stands where 2 brings it.
        self.folded([[1], [1, 3], [2]],
                    "deed a p\nset q.1 p\nset r.1 0\nset s.2 q.1\nsay s.2\nset r.1 (s.2*2)\nset x (r.1+q.1)\n"
                    "set q.3 (x+1)\nset r.3 0\ncall r.3 c 3 q.3\nset x (r.3+q.3)\ngive x")

    def test_all_ways(self):
        self.folded([[1], [1, 3], [2], [2, 3]],
                    "deed a p\nset q.1 p\nset r.1 0\nset s.2 q.1\nsay s.2\nset r.1 (s.2*2)\nset x (r.1+q.1)\n"
                    "set q.3 (x+1)\nset r.3 0\nset s.4 q.3\nsay s.4\nset r.3 (s.4*2)\nset x (r.3+q.3)\ngive x")

    def test_round_and_round(self):
        book = read_book("deed a\ncall x b 1\ngive x\ndeed b\nwhen n\ncall n b 2\nelse\nend\ngive n")
        told = fold_ways(book, [[1, 2, 2], [1], [1, 2]])
        self.assertEqual(book_text(told[:1]),
                         "deed a\nset n.1 0\nwhen n.1\nset n.2 0\nwhen n.2\nset n.3 0\nwhen n.3\ncall n.3 b 2\n"
                         "else\nend\nset n.2 n.3\nelse\nend\nset n.1 n.2\nelse\nend\nset x n.1\ngive x")
        self.assertEqual(told[1:], book[1:])

    def test_ways_that_no_run_goes(self):
        book = read_book("deed a\nwhen 0\ncall x b 1\nelse\nend\ngive 0\ndeed b\ngive 7")
        self.assertEqual(book_text(fold_ways(book, [[1]])),
                         "deed a\nwhen 0\nset x 7\nelse\nend\ngive 0\ndeed b\ngive 7")

    def test_a_long_way(self):
        book = made_book([deed("a", (), [call(0, "b")]), deed("b", (), [call(1, "b")])])
        ways = [[0] + [1] * many for many in range(398)]
        told = fold_ways(book, ways)
        self.assertEqual(book_size(told), 800)
        with self.assertRaises(TooBig):
            fold_ways(book, ways + [[0] + [1] * 398])

    def test_drawn_books_against_single_placings(self):
        chance = random.Random(231)
        several = 0
        for _ in range(600):
            book = drawn_book_of_ways(chance)
            ways = drawn_ways(chance, book, chance.randint(0, 6))
            told = fold_ways(book, ways)
            self.assertEqual(told, placed_along(chance, book, ways))
            self.assertEqual(told, tidy_book(told))
            self.assertEqual(told[1:], book[1:])
            self.assertEqual(book_size(told), book_size(book) + sum(weight(book, way) for way in ways))
            several += any(len(way) > 1 for way in ways)
        self.assertGreater(several, 100)


class FoldedRuns(unittest.TestCase):
    def test_drawn_books_run_alike(self):
        chance = random.Random(232)
        seen = {"done": 0, "broken": 0}
        for _ in range(500):
            book = drawn_book_of_ways(chance)
            folded = fold_ways(book, drawn_ways(chance, book, 5))
            values = drawn_values(chance, book)
            try:
                told = run_book(book, values)
            except (TooDeep, TooLong):
                continue
            self.assertEqual(run_book(folded, values)[:3], told[:3])
            seen[told[0]] += 1
        self.assertGreater(min(seen.values()), 50)

    def test_the_time_is_less_by_the_gains(self):
        chance = random.Random(233)
        changed = 0
        for _ in range(500):
            book = drawn_book_of_ways(chance)
            runs = drawn_done_runs(chance, book, 4)
            gone = {tuple(way): many for way, many in gone_ways(book, runs)}
            ways = drawn_ways(chance, book, 5)
            price = chance.choice([0, 2, 3, 10])
            gain = sum(gone.get(tuple(way), 0) * (price - len(own_names(called_along(book, way)))) for way in ways)
            less = time_of(book, runs, price) - time_of(fold_ways(book, ways), runs, price)
            self.assertEqual(less, gain)
            changed += gain != 0
        self.assertGreater(changed, 100)


class FoldedRefused(unittest.TestCase):
    book = read_book(Folded.text)

    def refused(self, error, ways, book=None):
        with self.assertRaises(error) as caught:
            fold_ways(book or self.book, ways)
        self.assertIs(type(caught.exception), error)

    def test_the_empty_way(self):
        self.refused(NoWay, [[]])
        self.refused(NoWay, [[1], []])
        self.refused(NoWay, [[], [1]])

    def test_a_way_twice(self):
        self.refused(NoWay, [[1], [1]])
        self.refused(NoWay, [[1], [2], [1, 3], [2], [2, 3]])
        self.refused(NoWay, [[1, 3], [1], [1, 3]])

    def test_ways_that_are_not_shut(self):
        self.refused(NoWay, [[1, 3]])
        self.refused(NoWay, [[2], [1, 3]])
        self.refused(NoWay, [[2, 3], [1, 3], [2]])
        book = read_book(ROUND)
        self.refused(NoWay, [[5], [5, 7, 1]], book)
        self.refused(NoWay, [[5], [5, 7], [5, 7, 1, 1]], book)
        self.assertEqual(len(fold_ways(book, [[5, 7, 1, 1], [5], [5, 7], [5, 7, 1]])), 4)

    def test_a_mark_that_stands_elsewhere(self):
        for ways in [[[3]], [[9]], [[1], [1, 1]], [[1], [1, 2]], [[1], [1, 9]], [[1], [1, 3], [1, 3, 3]], [[1], [3]],
                     [[1], [3, 1]]]:
            self.refused(NoWay, ways)

    def test_a_mark_that_stands_nowhere(self):
        for mark in [0, 4, 99, 100, -1, -2, 10 ** 5000]:
            self.refused(NoWay, [[mark]])
            self.refused(NoWay, [[1], [1, mark]])
            self.refused(NoWay, [[1], [mark, 3]])
            self.refused(NoWay, [[1], [1, 3], [1, mark, 3]])

    def test_800_and_801(self):
        rows = [SAY_ONE] * 10
        deeds = [deed("a", (), [call(0, "b"), call(1, "c")] + rows), deed("b", (), [call(2, "b")] + rows),
                 deed("c", (), [call(3, "c")] + rows, ("name", "n")), deed("d", (), [SAY_ONE] * 20)]
        book = made_book(deeds)
        self.assertEqual([book_size(book), weight(book, [0]), weight(book, [1])], [58, 12, 13])
        ways = [[0] + [2] * many for many in range(49)] + [[1] + [3] * many for many in range(11)]
        # 58 and 49 times 12 and 11 times 13 are 789.
        self.assertEqual(book_size(fold_ways(book, ways)), 789)
        fitting = made_book(deeds[:3] + [deed("d", (), [SAY_ONE] * 20), deed("e", (), [SAY_ONE] * 10)])
        self.assertEqual(book_size(fold_ways(fitting, ways)), 800)
        self.refused(TooBig, ways, made_book(deeds + [deed("e", (), [SAY_ONE] * 11)]))

    def test_called(self):
        for text in ["deed a\ncall x a 1\ngive 0", "deed a\ncall x b 1\ngive 0\ndeed b\ncall x a 2\ngive 0",
                     "deed a\ncall x c 1\ngive 0\ndeed b\ncall x a 2\ngive 0\ndeed c\ngive 0"]:
            for ways in [[], [[1]], [[]], [[2]], [[1], [1]], [[100]]]:
                self.refused(Called, ways, read_book(text))

    def test_called_then_no_way_then_too_big(self):
        rows = [SAY_ONE] * 19
        book = made_book([deed("a", (), [call(0, "b")]), deed("b", (), [call(1, "b")] + rows)])
        ways = [[0] + [1] * many for many in range(40)]
        self.refused(TooBig, ways, book)
        for wrong in [[], [2], [0], [1, 0], [0] + [1] * 41]:
            self.refused(NoWay, ways + [wrong], book)
            self.refused(NoWay, [wrong] + ways, book)
        called = made_book(list(book) + [deed("c", (), [call(5, "a")])])
        self.refused(Called, ways, called)
        self.refused(Called, ways + [[]], called)


class Told(unittest.TestCase):
    def test_what_is_handed_in_stays_and_what_is_told_is_new(self):
        book = read_book(ROUND)
        runs = [[2], [1]]
        before = copy.deepcopy((book, runs))
        told = gone_ways(book, runs)
        again = gone_ways(book, runs)
        self.assertEqual(told, again)
        lists = [told, again] + [way for way, many in told + again]
        self.assertEqual(len({id(one) for one in lists}), len(lists))
        kept = copy.deepcopy(again)
        for way, many in told:
            way.append(99)
        told.clear()
        self.assertEqual(again, kept)
        self.assertEqual(gone_ways(book, runs), kept)
        self.assertEqual((book, runs), before)

    def test_fold_ways_changes_nothing(self):
        book = read_book(ROUND)
        ways = [[5, 7], [5], [3]]
        before = copy.deepcopy((book, ways))
        self.assertEqual(fold_ways(book, ways), fold_ways(book, ways))
        self.assertEqual((book, ways), before)

    def test_gone_ways_are_shut(self):
        book = read_book(ROUND)
        ways = [way for way, many in gone_ways(book, [[2]])]
        folded = fold_ways(book, ways)
        self.assertEqual(run_book(folded, [2])[4], {})
        self.assertEqual(run_book(folded, [2])[1:3], run_book(book, [2])[1:3])


if __name__ == "__main__":
    unittest.main()

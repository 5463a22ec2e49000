import copy
import random
import unittest

from callfold.books import call_rows, deed_of, made_book, own_names, rows_of
from callfold.errors import NoMark, Ringed, TooBig
from callfold.folding import fold_book, folded_size
from callfold.rings import is_ring, rank_deeds
from callfold.texts import read_book
from callfold.whence import whence_of
from shapes import call, deed, drawn_book, drawn_marks, num

SAY_ONE = ("say", num(1))

CHAIN = "deed a p\ncall x b 10 p\nsay x\ngive x\n" \
        "deed b q\nset r q\ncall r c 20 (q+1)\ngive r\n" \
        "deed c s\nsay s\nset t 1\ngive t"


def own(*numbers):
    return [([], "row", number) for number in numbers]


def parted(name):
    """Letters and the number behind, 0 for none."""
    letters, point, number = name.partition(".")
    return letters, int(number or "0")


def bare_expression(expression, number):
    """With plain names alone; each name must have that number."""
    if expression[0] == "number":
        return expression
    if expression[0] == "name":
        letters, found = parted(expression[1])
        assert found == number, (expression, number)
        return ("name", letters)
    return (expression[0], bare_expression(expression[1], number), bare_expression(expression[2], number))


def bare_name(name, number):
    letters, found = parted(name)
    assert found == number, (name, number)
    return letters


def head_of(row, number=0):
    """A row without the rows within it, its names bare."""
    if row[0] == "set":
        return ("set", bare_name(row[1], number), bare_expression(row[2], number))
    if row[0] == "call":
        args = tuple(bare_expression(arg, number) for arg in row[3])
        return ("call", bare_name(row[1], number), row[2], args, row[4])
    return (row[0], bare_expression(row[1], number))


class AsTold:
    """Holds one deed of a folded book against what is told of its rows."""

    def __init__(self, book, marks, name):
        self.book = book
        self.marks = marks
        self.name = name
        self.calls = {}
        for one in book:
            for row in call_rows(one):
                self.calls[row[4]] = row
        self.numbers = {(): 0}

    def deed_behind(self, way):
        return deed_of(self.book, self.calls[way[-1]][2] if way else self.name)

    def expected(self, way, kind, what):
        body = self.deed_behind(way)
        if kind == "row":
            return head_of(rows_of(body)[what])
        row = self.calls[way[-1]]
        if kind == "give":
            return ("set", row[1], body[3])
        return ("set", what, dict(zip(body[1], row[3])).get(what, num(0)))

    def told_row(self, row, way, kind, what):
        if kind == "row":
            return head_of(row, self.numbers[way])
        if kind == "give":
            return ("set", bare_name(row[1], self.numbers[way[:-1]]), bare_expression(row[2], self.numbers[way]))
        number = self.numbers.setdefault(way, parted(row[1])[1])
        return ("set", bare_name(row[1], number), bare_expression(row[2], self.numbers[way[:-1]]))

    def learn_numbers(self, rows, origins):
        # A body without own names has no binds, and no number either.
        for row, (way, kind, what) in zip(rows, origins):
            if kind == "bind":
                self.numbers.setdefault(tuple(way), parted(row[1])[1])
            else:
                self.numbers.setdefault(tuple(way), None)

    def wanted_whats(self, way):
        body = self.deed_behind(way)
        rows = [("row", number) for number, row in enumerate(rows_of(body))
                if row[0] != "call" or row[4] not in self.marks]
        if not way:
            return rows
        return [("bind", name) for name in own_names(body)] + rows + [("give", None)]


class Whence(unittest.TestCase):
    def test_no_marks(self):
        book = read_book(CHAIN)
        self.assertEqual(whence_of(book, []), [("a", own(0, 1)), ("b", own(0, 1)), ("c", own(0, 1))])

    def test_one_mark(self):
        book = read_book(CHAIN)
        self.assertEqual(whence_of(book, [10]), [
            ("a", [([10], "bind", "q"), ([10], "bind", "r"), ([10], "row", 0), ([10], "row", 1), ([10], "give", None),
                   ([], "row", 1)]),
            ("c", own(0, 1)),
        ])
        self.assertEqual(whence_of(book, [20]), [
            ("a", own(0, 1)),
            ("b", [([], "row", 0), ([20], "bind", "s"), ([20], "bind", "t"), ([20], "row", 0), ([20], "row", 1),
                   ([20], "give", None)]),
        ])

    def test_ways_of_several_marks_the_outermost_first(self):
        self.assertEqual(whence_of(read_book(CHAIN), [10, 20]), [
            ("a", [([10], "bind", "q"), ([10], "bind", "r"), ([10], "row", 0),
                   ([10, 20], "bind", "s"), ([10, 20], "bind", "t"), ([10, 20], "row", 0), ([10, 20], "row", 1),
                   ([10, 20], "give", None), ([10], "give", None), ([], "row", 1)]),
        ])

    def test_a_way_that_does_not_rise(self):
        book = read_book("deed a\ncall x b 9\ngive x\ndeed b\ncall x c 5\ngive x\ndeed c\ncall x d 7\ngive 1\n"
                         "deed d\nsay 1\ngive 0")
        self.assertEqual(whence_of(book, [5, 7, 9])[0][1][2:4], [([9, 5, 7], "row", 0), ([9, 5, 7], "give", None)])

    def test_params_ahead_of_other_names(self):
        book = read_book("deed a\ncall x b 0 1 2\ngive x\ndeed b z m\nset a 1\ngive k")
        self.assertEqual([what for way, kind, what in whence_of(book, [0])[0][1]], ["z", "m", "a", "k", 0, None])

    def test_calls_within_when_and_turn(self):
        book = read_book("deed a\nwhen 1\nsay 1\ncall x b 0\nelse\nturn 2\ncall x b 1\nsay 2\nend\nend\nsay 3\ngive x\n"
                         "deed b\nturn 3\nsay n\nend\ngive n")
        whole = [([], "row", 0), ([], "row", 1)]
        whole += [([0], "bind", "n"), ([0], "row", 0), ([0], "row", 1), ([0], "give", None)]
        whole += [([], "row", 3)]
        whole += [([1], "bind", "n"), ([1], "row", 0), ([1], "row", 1), ([1], "give", None)]
        whole += own(5, 6)
        self.assertEqual(whence_of(book, [0, 1]), [("a", whole)])

    def test_an_empty_body_leaves_its_give_alone(self):
        book = read_book("deed a\ncall x b 3\ngive x\ndeed b\ngive 7")
        self.assertEqual(whence_of(book, [3]), [("a", [([3], "give", None)])])
        self.assertEqual(whence_of(book, []), [("a", own(0)), ("b", [])])

    def test_deeds_that_still_stand_beside_their_copies(self):
        book = read_book("deed a\ncall x b 0\ncall x b 1\ngive x\ndeed b\nsay 1\ngive 2")
        copy_of_b = [([0], "row", 0), ([0], "give", None)]
        self.assertEqual(whence_of(book, [0]), [("a", copy_of_b + own(1)), ("b", own(0))])

    def test_rings_by_other_marks(self):
        book = read_book("deed a\ncall x b 0\ngive x\ndeed b\ncall y a 1\ngive y")
        self.assertEqual(whence_of(book, [0]), [("a", [([0], "bind", "y"), ([0], "row", 0), ([0], "give", None)])])

    def test_deeds_that_are_not_reached_are_not_told(self):
        book = read_book("deed a\ngive 1\ndeed b\ncall x c 7\ngive 2\ndeed c\nsay 1\ngive 3")
        self.assertEqual(whence_of(book, [7]), [("a", [])])

    def test_drawn_books(self):
        chance = random.Random(161)
        deep = 0
        for _ in range(1500):
            book = drawn_book(chance, most_deeds=6, most_calls=8)
            marks = drawn_marks(chance, book)
            if rank_deeds(book, marks)[0] == "ring" or folded_size(book, marks) > 800:
                continue
            folded = fold_book(book, marks)
            told = whence_of(book, marks)
            self.assertEqual([name for name, origins in told], [one[0] for one in folded])
            for one, (name, origins) in zip(folded, told):
                self.hold(AsTold(book, marks, name), rows_of(one), origins)
                deep += any(len(way) > 1 for way, kind, what in origins)
        self.assertGreater(deep, 40)

    def hold(self, as_told, rows, origins):
        self.assertEqual(len(rows), len(origins))
        as_told.learn_numbers(rows, origins)
        numbers = [number for number in as_told.numbers.values() if number is not None]
        self.assertEqual(len(set(numbers)), len(numbers))
        by_way = {}
        for row, (way, kind, what) in zip(rows, origins):
            self.assertEqual(as_told.told_row(row, tuple(way), kind, what), as_told.expected(way, kind, what))
            by_way.setdefault(tuple(way), []).append((kind, what))
        for way, whats in by_way.items():
            self.assertEqual(whats, as_told.wanted_whats(list(way)))


class Refused(unittest.TestCase):
    # Folded by 0 to 9 the book has 801 rows and more; 50 closes a ring by itself.
    book = made_book([
        deed("main", (), [call(mark, "mid") for mark in range(5)] + [SAY_ONE] * 14 + [call(51, "self")]),
        deed("mid", (), [call(mark, "low") for mark in range(5, 10)] + [SAY_ONE] * 15),
        deed("low", (), [("set", name, num(1)) for name in "abcdefg"] + [SAY_ONE] * 13),
        deed("self", (), [call(50, "self")]),
    ])
    marks = list(range(10))

    def test_too_big(self):
        with self.assertRaises(TooBig):
            whence_of(self.book, self.marks)
        with self.assertRaises(TooBig):
            whence_of(self.book, self.marks + [51])

    def test_ringed_ahead_of_too_big(self):
        for marks in [[50], self.marks + [50], self.marks + [50, 51]]:
            with self.assertRaises(Ringed) as caught:
                whence_of(self.book, marks)
            self.assertTrue(is_ring(self.book, marks, caught.exception.ring))

    def test_no_mark_ahead_of_both(self):
        for marks in [[49], [-1], [100], [1, 0], [3, 3], self.marks + [50, 52], self.marks + [51, 50],
                      [50, 50], [10 ** 5000]]:
            with self.assertRaises(NoMark):
                whence_of(self.book, marks)

    def test_at_the_bound(self):
        rows = self.book[0][2][:-1]
        book = made_book([self.book[0][:2] + (rows,) + self.book[0][3:]] + list(self.book[1:3]))
        self.assertEqual(folded_size(book, self.marks), 800)
        told = whence_of(book, self.marks)
        self.assertEqual([(name, len(origins)) for name, origins in told], [("main", 799)])


class Told(unittest.TestCase):
    def test_lists_are_the_askers_own(self):
        book = read_book(CHAIN)
        marks = [10, 20]
        before = copy.deepcopy((book, marks))
        told = whence_of(book, marks)
        again = whence_of(book, marks)
        lists = [told, again, marks]
        for whole in (told, again):
            for name, origins in whole:
                lists.append(origins)
                lists.extend(way for way, kind, what in origins)
        self.assertEqual(len({id(one) for one in lists}), len(lists))
        kept = copy.deepcopy(again)
        for name, origins in told:
            for number, (way, kind, what) in enumerate(origins):
                way.append(number)
                self.assertEqual(again, kept)
            origins.clear()
        told.clear()
        self.assertEqual(again, kept)
        self.assertEqual(whence_of(book, marks), kept)
        self.assertEqual((book, marks), before)

    def test_own_rows_have_ways_of_their_own(self):
        told = whence_of(read_book(CHAIN), [])
        told[0][1][0][0].append(9)
        self.assertEqual(told[0][1][1][0], [])
        self.assertEqual(told[1][1][0][0], [])


if __name__ == "__main__":
    unittest.main()

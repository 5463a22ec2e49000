"""The promises over the whole program, held together on drawn books, from text to desk."""

import random
import unittest

from callfold.bestways import best_ways, ways_judged
from callfold.books import book_size, calls_of, made_book, rows_of, trimmed_book
from callfold.casejudge import cases_judged
from callfold.cases import best_marks
from callfold.desk import Desk
from callfold.errors import FoldError, NoText, Ringed, TooBig, TooDeep, TooLong, TooMany
from callfold.folding import fold_book, folded_size
from callfold.freest import freest_marks, table_judged
from callfold.gains import count_calls, gain_of, time_of
from callfold.placing import place_call
from callfold.rings import is_ring, rank_deeds
from callfold.runs import run_book
from callfold.texts import book_text, read_book
from callfold.ways import fold_ways, gone_ways
from callfold.whence import whence_of
from shapes import all_marks, drawn_book, drawn_done_runs, drawn_marks, drawn_values, is_first_called


def readable_books(seed, many):
    """Drawn books that a text can hold, with a source of chance."""
    chance = random.Random(seed)
    found = 0
    while found < many:
        book = drawn_book(chance, most_deeds=chance.choice([3, 5, 7]), most_calls=chance.choice([4, 7, 9]),
                          back=chance.choice([0, 0.1, 0.4]))
        try:
            read = read_book(book_text(book))
        except NoText:
            continue
        assert read == book
        found += 1
        yield chance, book


def run_or_none(book, values):
    try:
        return run_book(book, values)
    except (TooDeep, TooLong):
        return None


class Whole(unittest.TestCase):
    def test_marks_that_close_a_ring_and_those_that_do_not(self):
        for chance, book in readable_books(31, 150):
            marks = drawn_marks(chance, book)
            told = rank_deeds(book, marks)
            if told[0] == "ring":
                self.assertTrue(is_ring(book, marks, told[1]))
                for asked in [fold_book, folded_size, whence_of]:
                    with self.assertRaises(Ringed) as caught:
                        asked(book, marks)
                    self.assertTrue(is_ring(book, marks, caught.exception.ring))
            elif folded_size(book, marks) > 800:
                for asked in [fold_book, whence_of]:
                    with self.assertRaises(TooBig):
                        asked(book, marks)
            else:
                self.hold_folded(chance, book, marks)

    def hold_folded(self, chance, book, marks):
        folded = fold_book(book, marks)
        self.assertEqual(book_size(folded), folded_size(book, marks))
        whence = whence_of(book, marks)
        self.assertEqual([(name, len(origins)) for name, origins in whence],
                         [(one[0], len(rows_of(one))) for one in folded])
        for _ in range(3):
            values = drawn_values(chance, book)
            told = run_or_none(book, values)
            if told is not None:
                self.assertEqual(run_book(folded, values)[:3], told[:3])
        runs = drawn_done_runs(chance, book, 3)
        for price in [0, 4, 1000]:
            gain = gain_of(book, count_calls(book, runs), price, marks)
            self.assertEqual(time_of(folded, runs, price), time_of(book, runs, price) - gain)
        self.hold_placings(chance, book, marks, folded)

    def hold_placings(self, chance, book, marks, folded):
        placed = book
        while True:
            places = []
            for one in placed:
                places.extend((one[0], at) for at, (mark, called) in enumerate(calls_of(one)) if mark in marks)
            if not places:
                break
            try:
                placed = place_call(placed, *chance.choice(places))
            except TooBig:
                return
        self.assertEqual(trimmed_book(placed), folded)

    def test_papers_of_all_three_kinds(self):
        seen = {"best": 0, "none": 0, "free": 0, "ways": 0}
        for chance, book in readable_books(32, 200):
            runs = drawn_done_runs(chance, book, 4)
            counts = count_calls(book, runs)
            price = chance.choice([1, 3, 10])
            size = max(0, book_size(trimmed_book(book)) + chance.randint(-5, 15))
            if len(all_marks(book)) <= 8:
                seen[self.hold_best(book, runs, counts, price, size)] += 1
            if len(book) <= 6:
                self.hold_free(book, runs, counts, price)
                seen["free"] += 1
            if not is_first_called(book) and len(gone_ways(book, runs)) <= 12:
                self.hold_ways(book, runs, price, chance.choice([0, 5, 20, 60]))
                seen["ways"] += 1
        self.assertGreater(min(seen.values()), 15)

    def hold_best(self, book, runs, counts, price, size):
        told = best_marks(book, counts, price, size)
        if told[0] == "none":
            self.assertTrue(cases_judged(book, counts, price, size, None, told[1]))
        else:
            self.assertTrue(cases_judged(book, counts, price, size, told[1], told[3]))
            self.assertFalse(cases_judged(book, counts, price, size, told[1] - 1, told[3]))
            self.assertFalse(cases_judged(book, counts, price, size, None, told[3]))
            folded = fold_book(book, told[2])
            self.assertLessEqual(book_size(folded), size)
            self.assertEqual(time_of(folded, runs, price), time_of(book, runs, price) - told[1])
        return told[0]

    def hold_free(self, book, runs, counts, price):
        gain, marks, table = freest_marks(book, counts, price)
        self.assertTrue(table_judged(book, counts, price, gain, table))
        self.assertFalse(table_judged(book, counts, price, gain + 1, table))
        # No gain within a size is above the one without a bound; and with room enough it is the same.
        if len(all_marks(book)) <= 8:
            self.assertGreaterEqual(gain, best_marks(book, counts, price, 2000)[1])
            if folded_size(book, marks) <= 2000:
                self.assertEqual(gain, best_marks(book, counts, price, 2000)[1])
        if folded_size(book, marks) <= 800:
            folded = fold_book(book, marks)
            self.assertEqual(time_of(folded, runs, price), time_of(book, runs, price) - gain)

    def hold_ways(self, book, runs, price, room):
        gone = gone_ways(book, runs)
        gain, ways, table = best_ways(book, gone, price, room)
        self.assertTrue(ways_judged(book, gone, price, room, gain, table))
        self.assertFalse(ways_judged(book, gone, price, room, gain - 1, table))
        folded = fold_ways(book, ways)
        self.assertLessEqual(book_size(folded), book_size(book) + room)
        self.assertEqual(time_of(folded, runs, price), time_of(book, runs, price) - gain)
        for values in runs:
            self.assertEqual(run_book(folded, values)[:3], run_book(book, values)[:3])

    def test_from_text_to_desk(self):
        answered = 0
        for chance, book in readable_books(33, 150):
            desk = Desk(book_text(book))
            runs = drawn_done_runs(chance, book, 6)
            for values in runs:
                self.assertEqual(desk.say(" ".join(["keep"] + [str(value) for value in values])), "ok")
            marks = drawn_marks(chance, book)
            row = " ".join(["fold"] + [str(mark) for mark in chance.sample(marks, len(marks))])
            if rank_deeds(book, marks)[0] == "ring":
                with self.assertRaises(Ringed):
                    desk.say(row)
                marks = []
            else:
                self.assertEqual(desk.say(row), f"size {folded_size(book, marks)}")
            self.hold_desk(desk, book, runs, marks)
            answered += bool(runs and marks)
        self.assertGreater(answered, 15)

    def hold_desk(self, desk, book, runs, marks):
        counts = count_calls(book, runs)
        self.same(desk, "show", lambda: book_text(fold_book(book, marks)))
        self.same(desk, "time 9", lambda: str(time_of(fold_book(book, marks), runs, 9)))
        self.same(desk, "gain 9", lambda: str(gain_of(book, counts, 9, marks)))
        self.same(desk, "ways 9 30", lambda: f"gain {best_ways(book, gone_ways(book, runs), 9, 30)[0]}")
        for row, asked in [("free 9", lambda: freest_marks(book, counts, 9)),
                           ("best 9 40", lambda: best_marks(book, counts, 9, 40))]:
            self.same(desk, row, lambda: self.marks_text(asked()))

    def marks_text(self, told):
        if told[0] == "none":
            return "none"
        gain, marks = told[1:3] if told[0] == "best" else told[:2]
        return f"gain {gain}" + "".join([" marks"] + [f" {mark}" for mark in marks] if marks else [])

    def same(self, desk, row, asked):
        try:
            wanted = asked()
        except FoldError as refusal:
            with self.assertRaises(type(refusal)):
                desk.say(row)
        else:
            self.assertEqual(desk.say(row), wanted)


class Example(unittest.TestCase):
    """One book by hand through the whole program."""

    text = "deed main n\nturn n\ncall x odd 1 x\nend\ncall y tail 2 x\nsay y\ngive (x+y)\n" \
           "deed odd k\nset h (k*2)\ngive (h+1)\n" \
           "deed tail k\ncall k odd 3 k\nwhen (k<50)\ncall k tail 4 k\nelse\nend\ngive k"

    def test_the_whole(self):
        book = read_book(self.text)
        self.assertEqual(run_book(book, [3]), ("done", [63], 70, 20, {1: 3, 2: 1, 3: 3, 4: 2}))
        counts = count_calls(book, [[3]])
        self.assertEqual(counts, {1: 3, 2: 1, 3: 3, 4: 2})
        # Own names: of odd two, of tail one.
        self.assertEqual(gain_of(book, counts, 5, [1, 2, 3]), 3 * 3 + 4 + 3 * 3)
        self.assertEqual(freest_marks(book, counts, 5)[:2], (22, [1, 2, 3]))
        with self.assertRaises(Ringed):
            fold_book(book, [4])
        folded = fold_book(book, [1, 2, 3])
        self.assertEqual([one[0] for one in folded], ["main", "tail"])
        self.assertEqual(run_book(folded, [3])[:3], ("done", [63], 70))
        self.assertEqual(time_of(book, [[3]], 5) - time_of(folded, [[3]], 5), 22)
        self.assertEqual([way for way, many in gone_ways(book, [[3]])],
                         [[1], [2], [2, 3], [2, 4], [2, 4, 3], [2, 4, 4], [2, 4, 4, 3]])
        all_along = fold_ways(book, [way for way, many in gone_ways(book, [[3]])])
        self.assertEqual(run_book(all_along, [3])[4], {})

    def test_many_calls(self):
        book = made_book([("a", (), tuple(("call", "x", "b", (), mark) for mark in range(9)), ("number", 0)),
                          ("b", (), (), ("number", 0))])
        with self.assertRaises(TooMany):
            best_marks(book, count_calls(book, [[]]), 5, 100)
        self.assertEqual(freest_marks(book, count_calls(book, [[]]), 5)[0], 45)


if __name__ == "__main__":
    unittest.main()

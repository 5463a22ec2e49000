import copy
import random
import unittest

from callfold.books import book_size, calls_of, deed_of, made_book, own_names, trimmed_book
from callfold.errors import NoMark, Ringed, TooBig, TooDeep, TooLong
from callfold.folding import fold_book, folded_size
from callfold.placing import place_call, tidy_book
from callfold.rings import is_ring, rank_deeds
from callfold.runs import run_book
from callfold.texts import book_text, read_book
from shapes import all_marks, call, deed, drawn_book, drawn_marks, num, turned

SAY_ONE = ("say", num(1))


def drawn_folds(seed, many, **form):
    """Books with marks of theirs that close no ring."""
    chance = random.Random(seed)
    for _ in range(many):
        book = drawn_book(chance, **form)
        marks = drawn_marks(chance, book)
        if rank_deeds(book, marks)[0] == "ranks":
            yield chance, book, marks


def placed_till_none_is_left(chance, book, marks):
    """Single placings of calls of these marks, in deeds and order by chance."""
    while True:
        places = []
        for one in book:
            places.extend((one[0], at) for at, (mark, called) in enumerate(calls_of(one)) if mark in marks)
        if not places:
            return book
        name, at = chance.choice(places)
        book = place_call(book, name, at)


def run_or_refusal(book, values):
    try:
        return run_book(book, values)
    except (TooDeep, TooLong):
        return None


def doubling(many, params=""):
    """Deeds d, da, daa .. that each call the next one twice; own names are the params and, but in the last, x."""
    deeds = []
    args = [num(1)] * len(params)
    for place in range(many):
        name = "d" + "a" * place
        rows = [call(2 * place, name + "a", args), call(2 * place + 1, name + "a", args)]
        deeds.append(deed(name, params, rows if place < many - 1 else [SAY_ONE]))
    return deeds


def bound_book(says):
    """A fresh book whose folded size by all marks is 786 and so many says: 5 + 5 * (20 + 1) + 25 * (20 + 7) + 1."""
    names = [("set", name, num(1)) for name in "abcdefg"]
    return made_book([
        deed("main", (), [call(mark, "mid") for mark in range(5)] + [SAY_ONE] * says),
        deed("mid", (), [call(mark, "low") for mark in range(5, 10)] + [SAY_ONE] * 15),
        deed("low", (), names + [SAY_ONE] * 13),
    ])


class Folded(unittest.TestCase):
    def folded(self, text, marks, wanted):
        book = read_book(text)
        told = fold_book(book, marks)
        self.assertEqual(book_text(told), wanted)
        self.assertEqual(folded_size(book, marks), book_size(told))

    def test_no_marks(self):
        text = "deed a p\ncall x b 0 p\ngive x\ndeed b q\ncall x b 1 q\ngive x"
        self.folded(text, [], text)

    def test_no_marks_and_unreached_deeds(self):
        self.folded("deed a\ngive 1\ndeed b\ncall x a 0\ngive 2", [], "deed a\ngive 1")

    def test_one_mark(self):
        self.folded("deed a p\ncall x b 0 (p+1)\nsay x\ngive x\ndeed b q\nset r q\ngive (r*q)", [0],
                    "deed a p\nset q.1 (p+1)\nset r.1 0\nset r.1 q.1\nset x (r.1*q.1)\nsay x\ngive x")

    def test_marks_within_marks(self):
        text = "deed a p\ncall x b 0 p\ncall y c 1 x\ngive y\n" \
               "deed b q\ncall r c 2 (q+1)\ngive r\ndeed c s\nsay s\ngive s"
        self.folded(text, [0, 1, 2],
                    "deed a p\nset q.1 p\nset r.1 0\nset s.2 (q.1+1)\nsay s.2\nset r.1 s.2\nset x r.1\n"
                    "set s.3 x\nsay s.3\nset y s.3\ngive y")
        self.folded(text, [0],
                    "deed a p\nset q.1 p\nset r.1 0\ncall r.1 c 2 (q.1+1)\nset x r.1\ncall y c 1 x\ngive y\n"
                    "deed c s\nsay s\ngive s")
        self.folded(text, [1, 2],
                    "deed a p\ncall x b 0 p\nset s.1 x\nsay s.1\nset y s.1\ngive y\n"
                    "deed b q\nset s.1 (q+1)\nsay s.1\nset r s.1\ngive r")
        self.folded(text, [2],
                    "deed a p\ncall x b 0 p\ncall y c 1 x\ngive y\n"
                    "deed b q\nset s.1 (q+1)\nsay s.1\nset r s.1\ngive r\ndeed c s\nsay s\ngive s")

    def test_within_when_and_turn(self):
        self.folded("deed a\nwhen 1\ncall x b 0\nelse\nturn 2\ncall x b 1\nend\nend\ngive x\ndeed b\ngive n", [0, 1],
                    "deed a\nwhen 1\nset n.1 0\nset x n.1\nelse\nturn 2\nset n.2 0\nset x n.2\nend\nend\ngive x")

    def test_rings_by_other_marks_stay(self):
        self.folded("deed a\ncall x b 0\ngive x\ndeed b\ncall y a 1\ngive y", [0],
                    "deed a\nset y.1 0\ncall y.1 a 1\nset x y.1\ngive x")
        self.folded("deed a\ncall x b 0\ngive x\ndeed b\ncall y a 1\ngive y", [1],
                    "deed a\ncall x b 0\ngive x\ndeed b\nset x.1 0\ncall x.1 b 0\nset y x.1\ngive y")

    def test_a_mark_in_a_ring_that_stays_open(self):
        self.folded("deed a\ncall x b 0\ngive x\ndeed b\ncall y b 1\ngive y", [0],
                    "deed a\nset y.1 0\ncall y.1 b 1\nset x y.1\ngive x\ndeed b\ncall y b 1\ngive y")

    def test_deeds_no_longer_reached_go_others_stay_in_their_order(self):
        text = "deed a\ncall x d 0\ngive x\ndeed b\ngive 1\ndeed c\ncall x b 1\ngive 2\ndeed d\ncall x c 2\ngive 3"
        names = {(): "abcd", (0,): "abc", (1,): "acd", (2,): "abd", (0, 1): "ac", (0, 2): "ab", (1, 2): "ad",
                 (0, 1, 2): "a"}
        for marks, left in names.items():
            told = fold_book(read_book(text), list(marks))
            self.assertEqual("".join(one[0] for one in told), left)

    def test_marks_in_unreached_deeds(self):
        self.folded("deed a\ngive 1\ndeed b\ncall x c 7\ngive 2\ndeed c\ncall x c 8\ngive 3", [7], "deed a\ngive 1")

    def test_unreached_deeds_may_be_too_great(self):
        deeds = [deed("a", (), [call(98, "c")])] + doubling(40) + [deed("c")]
        marks = list(range(78)) + [98]
        book = made_book(deeds)
        self.assertEqual(fold_book(book, marks), (deed("a", (), [("set", "x", num(0))]),))
        self.assertEqual(folded_size(book, marks), 2)

    def test_a_call_at_each_end_of_the_depth(self):
        rows = {}
        for place in range(8):
            name = "abcdefgh"[place]
            rows[name] = [turned(3, call(place, "abcdefgh"[place + 1]))] if place < 7 else [turned(3, SAY_ONE)]
        book = made_book([deed(name, (), rows[name]) for name in "abcdefgh"])
        told = fold_book(book, list(range(7)))
        self.assertEqual(len(told), 1)
        self.assertEqual(run_book(told, [])[1:3], run_book(book, [])[1:3])
        self.assertEqual(book_size(told), folded_size(book, list(range(7))))

    def test_drawn_books_against_single_placings(self):
        compared = 0
        for chance, book, marks in drawn_folds(71, 400):
            if folded_size(book, marks) <= 200:
                folded = fold_book(book, marks)
                for _ in range(2):
                    try:
                        placed = placed_till_none_is_left(chance, book, marks)
                    except TooBig:
                        continue
                    self.assertEqual(trimmed_book(placed), folded)
                    compared += 1
        self.assertGreater(compared, 300)

    def test_drawn_books_are_trimmed_tidy_and_as_great_as_told(self):
        for chance, book, marks in drawn_folds(72, 400, most_deeds=8, most_calls=10):
            size = folded_size(book, marks)
            if size > 800:
                with self.assertRaises(TooBig):
                    fold_book(book, marks)
            else:
                told = fold_book(book, marks)
                self.assertEqual(book_size(told), size)
                self.assertEqual((trimmed_book(told), tidy_book(told)), (told, told))
                self.assertFalse(set(all_marks(told)) & set(marks))
                for one in told:
                    self.assertEqual(own_names(one), own_names(deed_of(book, one[0])))


class FoldedRuns(unittest.TestCase):
    def test_drawn_books_run_alike(self):
        seen = {"done": 0, "broken": 0}
        for chance, book, marks in drawn_folds(73, 500):
            if folded_size(book, marks) > 800:
                continue
            folded = fold_book(book, marks)
            for _ in range(3):
                values = [chance.choice([0, 1, 2, 5, 999999]) for _ in book[0][1]]
                told = run_or_refusal(book, values)
                if told is not None:
                    seen[told[0]] += bool(marks)
                    self.assert_alike(book, marks, told, run_book(folded, values))
        self.assertGreater(seen["done"], 200)
        self.assertGreater(seen["broken"], 50)

    def assert_alike(self, book, marks, told, of_folded):
        self.assertEqual(of_folded[:3], told[:3])
        if told[0] == "done":
            more = 0
            for one in book:
                for mark, called in calls_of(one):
                    if mark in marks:
                        more += told[4].get(mark, 0) * len(own_names(deed_of(book, called)))
            self.assertEqual(of_folded[3], told[3] + more)
            self.assertEqual(of_folded[4], {mark: many for mark, many in told[4].items() if mark not in marks})

    def test_what_breaks_in_an_arg_a_body_and_a_give(self):
        text = "deed a p q r\nsay 1\ncall x b 0 (6/p) q r\nsay x\ngive x\n" \
               "deed b n q r\nsay n\nset m (6/q)\nsay m\ngive (m/r)"
        book = read_book(text)
        folded = fold_book(book, [0])
        for values, wanted in [([0, 1, 1], ("broken", [1])), ([1, 0, 1], ("broken", [1, 6])),
                               ([1, 1, 0], ("broken", [1, 6, 6])), ([0, 0, 0], ("broken", [1]))]:
            self.assertEqual(run_book(book, values), wanted)
            self.assertEqual(run_book(folded, values), wanted)
        self.assertEqual(run_book(folded, [2, 3, 1]), ("done", [1, 3, 2, 2], 2, 10, {}))

    def test_names_begin_anew_in_a_turn(self):
        book = read_book("deed a\nturn 3\ncall x b 0\nsay x\nend\ngive 0\ndeed b\nset n (n+1)\ngive n")
        self.assertEqual(run_book(fold_book(book, [0]), [])[1], [1, 1, 1])


class Sizes(unittest.TestCase):
    def test_of_a_small_book(self):
        book = read_book("deed a p\ncall x b 0 p\ncall y b 1 x\ngive y\ndeed b q\nsay q\nset r q\ngive r")
        self.assertEqual([folded_size(book, marks) for marks in [[], [0], [1], [0, 1]]], [6, 10, 10, 11])

    def test_800_and_801(self):
        book = bound_book(14)
        self.assertEqual(folded_size(book, list(range(10))), 800)
        self.assertEqual(book_size(fold_book(book, list(range(10)))), 800)
        book = bound_book(15)
        self.assertEqual(folded_size(book, list(range(10))), 801)
        with self.assertRaises(TooBig):
            fold_book(book, list(range(10)))

    def test_a_book_above_the_bound_that_its_reached_deeds_do_not_pass(self):
        deeds = list(bound_book(14))
        deeds.append(deed("rest", (), [SAY_ONE] * 20))
        book = made_book(deeds)
        self.assertEqual(folded_size(book, list(range(10))), 800)
        self.assertEqual(book_size(fold_book(book, list(range(10)))), 800)

    def test_far_above_the_bound(self):
        for many in [10, 30, 50]:
            book = made_book(doubling(many))
            marks = list(range(2 * many - 2))
            rows = 1
            for place in range(many - 1):
                rows = 2 + 2 * (rows + (0 if place == 0 else 1))
            self.assertEqual(folded_size(book, marks), 1 + rows)
            with self.assertRaises(TooBig):
                fold_book(book, marks)

    def test_far_above_the_bound_with_deeds_that_stand(self):
        # By all marks but the first two, the second deed stands beside the first one.
        book = made_book(doubling(30, "pq"))
        marks = list(range(2, 58))
        rows = 1
        for place in range(28):
            rows = 2 + 2 * (rows + (2 if place == 0 else 3))
        self.assertEqual(folded_size(book, marks), 3 + 1 + rows)

    def test_many_left_calls_are_counted_once(self):
        deeds = doubling(40)
        last = deeds.pop()
        deeds.append((last[0], (), (call(90, "z"), call(91, "z"), call(92, "d")), num(0)))
        deeds.append(deed("z", (), [SAY_ONE] * 4))
        book = made_book(deeds)
        rows = 3
        for place in range(39):
            rows = 2 + 2 * (rows + 1)
        self.assertEqual(folded_size(book, list(range(78))), 1 + rows + 5)


class Refused(unittest.TestCase):
    ringed = made_book([deed("a", (), [call(1, "b"), call(5, "c")]), deed("b", (), [call(2, "a")]),
                        deed("c", (), [call(7, "c")])])

    def refused(self, error, book, marks, asked=(fold_book, folded_size)):
        for one in asked:
            with self.assertRaises(error) as caught:
                one(book, marks)
            self.assertIs(type(caught.exception), error)
            if error is Ringed:
                self.assertIs(type(caught.exception.ring), list)
                self.assertTrue(is_ring(book, marks, caught.exception.ring))

    def test_no_mark(self):
        for marks in [[0], [3], [100], [-1], [1, 1], [5, 1], [1, 3, 5], [10 ** 5000]]:
            self.refused(NoMark, self.ringed, marks)

    def test_ringed(self):
        for marks in [[7], [1, 2], [1, 2, 5], [1, 7], [1, 2, 5, 7], [5, 7]]:
            self.refused(Ringed, self.ringed, marks)
        for marks in [[], [1], [2], [5], [1, 5], [2, 5]]:
            self.assertEqual(book_size(fold_book(self.ringed, marks)), folded_size(self.ringed, marks))

    def test_a_ring_among_unreached_deeds(self):
        self.refused(Ringed, made_book([deed("a"), deed("b", (), [call(0, "b")])]), [0])

    def test_no_mark_ahead_of_ringed(self):
        for marks in [[1, 2, 3], [2, 1], [7, 7], [7, 5], [1, 2, 2]]:
            self.refused(NoMark, self.ringed, marks)

    def test_ringed_ahead_of_too_big(self):
        deeds = list(bound_book(15))
        deeds[0] = (deeds[0][0], (), deeds[0][2][:-1] + (call(50, "more"),), deeds[0][3])
        deeds.append(deed("more", (), [call(51, "more")]))
        book = made_book(deeds)
        marks = list(range(10))
        self.refused(TooBig, book, marks, [fold_book])
        self.refused(Ringed, book, marks + [51])
        self.refused(NoMark, book, marks + [51, 52])
        self.refused(NoMark, book, marks + [9])

    def test_the_borne_ring_is_the_askers_own(self):
        marks = [1, 2]
        rings = []
        for one in [fold_book, fold_book, folded_size]:
            with self.assertRaises(Ringed) as caught:
                one(self.ringed, marks)
            rings.append(caught.exception.ring)
        self.assertIsNot(rings[0], rings[1])
        rings[0].append(9)
        self.assertEqual(rings[1], rings[2])
        self.assertEqual(marks, [1, 2])


class Told(unittest.TestCase):
    def test_what_is_handed_in_stays(self):
        for chance, book, marks in drawn_folds(74, 40):
            before = copy.deepcopy((book, marks))
            if folded_size(book, marks) <= 800:
                self.assertEqual(fold_book(book, marks), fold_book(book, marks))
            self.assertEqual(folded_size(book, marks), folded_size(book, marks))
            self.assertEqual((book, marks), before)

    def test_what_is_told_may_be_handed_in_again(self):
        book = read_book("deed a p\ncall x b 0 p\ngive x\ndeed b q\ncall r c 1 q\ngive r\ndeed c s\ngive (s+s)")
        part = fold_book(book, [0])
        self.assertEqual(run_book(part, [4])[1:3], ([], 8))
        self.assertEqual(trimmed_book(place_call(part, "a", 0)), fold_book(book, [0, 1]))


if __name__ == "__main__":
    unittest.main()

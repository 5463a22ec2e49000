import copy
import unittest

from callfold.books import book_size, calls_of, deed_of, made_book, own_names, rows_of, size_of, trimmed_book
from callfold.errors import NoDeed, Twice, WrongCount
from shapes import call, deed, nam, nested, num, turned

SAY_ONE = ("say", num(1))
SAY_TWO = ("say", num(2))
SAY_THREE = ("say", num(3))


class MadeBooks(unittest.TestCase):
    def test_a_book_is_the_deeds_as_a_tuple(self):
        deeds = [deed("main", "ab", [call(0, "other", [nam("a")])], nam("x")), deed("other", "p", [SAY_ONE])]
        self.assertEqual(made_book(deeds), (deeds[0], deeds[1]))

    def test_the_smallest_book(self):
        self.assertEqual(made_book([("a", (), (), num(0))]), (("a", (), (), num(0)),))

    def test_the_list_stays_and_is_not_kept(self):
        deeds = [deed("a", "p", [call(3, "a", [num(1)])]), deed("b")]
        before = copy.deepcopy(deeds)
        book = made_book(deeds)
        self.assertEqual(deeds, before)
        deeds.clear()
        self.assertEqual(book, tuple(before))

    def test_a_refused_list_stays_too(self):
        deeds = [deed("a", (), [call(3, "c")]), deed("b")]
        before = copy.deepcopy(deeds)
        with self.assertRaises(NoDeed):
            made_book(deeds)
        self.assertEqual(deeds, before)

    def test_asked_again_the_same(self):
        deeds = [deed("a"), deed("b")]
        self.assertEqual(made_book(deeds), made_book(deeds))

    def test_a_deed_may_call_itself_and_those_ahead(self):
        deeds = [deed("a", (), [call(1, "a"), call(0, "b")]), deed("b", (), [call(99, "a")])]
        self.assertEqual(made_book(deeds), tuple(deeds))

    def test_like_params_in_unlike_deeds_stand(self):
        deeds = [deed("a", "pq"), deed("b", "pq"), deed("p", "a")]
        self.assertEqual(made_book(deeds), tuple(deeds))

    def test_bounds_met_and_somewhat_passed_are_not_refused(self):
        for count in [8, 9]:
            deeds = [deed(name) for name in "abcdefghi"[:count]]
            self.assertEqual(made_book(deeds), tuple(deeds))
        for count in [10, 11]:
            deeds = [deed("a", (), [call(mark, "a") for mark in range(count)])]
            self.assertEqual(made_book(deeds), tuple(deeds))
        for count in [20, 21]:
            deeds = [deed("a", (), [SAY_ONE] * count)]
            self.assertEqual(made_book(deeds), tuple(deeds))
        for depth in [3, 4]:
            deeds = [deed("a", (), [turned(depth, SAY_ONE)])]
            self.assertEqual(made_book(deeds), tuple(deeds))
        for depth in [5, 6]:
            deeds = [deed("a", (), [("say", nested(depth))])]
            self.assertEqual(made_book(deeds), tuple(deeds))


class RefusedBooks(unittest.TestCase):
    def refused(self, error, deeds):
        with self.assertRaises(error) as caught:
            made_book(deeds)
        self.assertIs(type(caught.exception), error)

    def test_a_deed_name_twice(self):
        self.refused(Twice, [deed("a"), deed("a")])
        self.refused(Twice, [deed("a"), deed("b"), deed("c"), deed("a", "p")])

    def test_a_param_twice(self):
        self.refused(Twice, [deed("a", "pp")])
        self.refused(Twice, [deed("a"), deed("b", "pqrp")])

    def test_a_call_of_no_deed(self):
        self.refused(NoDeed, [deed("a", (), [call(0, "b")])])
        self.refused(NoDeed, [deed("a", "p", [call(0, "p", [num(1)])])])

    def test_args_too_many_or_too_few(self):
        self.refused(WrongCount, [deed("a", (), [call(0, "b")]), deed("b", "p")])
        self.refused(WrongCount, [deed("a", (), [call(0, "b", [num(1)])]), deed("b")])
        self.refused(WrongCount, [deed("a", (), [call(0, "b", [num(1)] * 3)]), deed("b", "pqrs")])
        self.refused(WrongCount, [deed("a", "p", [call(0, "a")])])

    def test_a_mark_twice(self):
        self.refused(Twice, [deed("a", (), [call(5, "a"), call(5, "a")])])
        self.refused(Twice, [deed("a", (), [call(5, "b")]), deed("b", (), [call(5, "a")])])

    def test_calls_within_rows_are_judged_too(self):
        rows = {
            "when": lambda row: ("when", num(1), (row,), ()),
            "others": lambda row: ("when", num(1), (), (row,)),
            "turn": lambda row: ("turn", num(1), (row,)),
            "deep": lambda row: turned(3, row),
        }
        for place, around in rows.items():
            with self.subTest(place):
                self.refused(NoDeed, [deed("a", (), [around(call(0, "b"))])])
                self.refused(WrongCount, [deed("a", (), [around(call(0, "a", [num(1)]))])])
                self.refused(Twice, [deed("a", (), [call(0, "a"), around(call(0, "a"))])])

    def test_names_go_ahead_of_all_calls(self):
        wrong = [call(0, "nought"), call(1, "a", [num(1)])]
        self.refused(Twice, [deed("a", (), wrong), deed("b"), deed("b")])
        self.refused(Twice, [deed("a", (), wrong), deed("b", "pp")])
        self.refused(Twice, [deed("a", (), [call(0, "a", [num(1)])]), deed("b"), deed("a")])

    def test_of_one_call_no_deed_then_wrong_count_then_twice(self):
        self.refused(NoDeed, [deed("a", (), [call(5, "a"), call(5, "b", [num(1)])])])
        self.refused(WrongCount, [deed("a", (), [call(5, "a"), call(5, "a", [num(1)])])])

    def test_of_several_calls_the_first_in_reading_order(self):
        no_deed = call(1, "b")
        wrong_count = call(2, "a", [num(1)])
        twice = call(0, "a")
        first = call(0, "a")
        self.refused(NoDeed, [deed("a", (), [first, no_deed, wrong_count, twice])])
        self.refused(WrongCount, [deed("a", (), [first, wrong_count, no_deed, twice])])
        self.refused(Twice, [deed("a", (), [first, twice, no_deed, wrong_count])])
        self.refused(WrongCount, [deed("a", (), [first, ("when", num(0), (wrong_count,), (no_deed,)), twice])])
        self.refused(NoDeed, [deed("a", (), [first, ("when", num(0), (no_deed,), (wrong_count,)), twice])])
        self.refused(WrongCount, [deed("a", (), [first, ("turn", num(0), (wrong_count,)), no_deed])])

    def test_of_several_deeds_the_first(self):
        no_deed = [call(1, "c")]
        wrong_count = [call(2, "a", [num(1)])]
        self.refused(NoDeed, [deed("a", (), no_deed), deed("b", (), wrong_count)])
        self.refused(WrongCount, [deed("a", (), wrong_count), deed("b", (), no_deed)])
        self.refused(Twice, [deed("a", (), [call(3, "a"), call(3, "a")]), deed("b", (), no_deed)])


class ReadDeeds(unittest.TestCase):
    def test_deed_of(self):
        book = (deed("a", "p"), deed("b", "q"), deed("ab", "r"))
        for name, place in [("a", 0), ("b", 1), ("ab", 2)]:
            self.assertEqual(deed_of(book, name), book[place])

    def test_deed_of_refused(self):
        for name in ["c", "aa", ""]:
            with self.assertRaises(NoDeed):
                deed_of((deed("a", "c", [("set", "c", num(1))]), deed("b")), name)

    def test_rows_in_reading_order(self):
        turn = ("turn", num(7), (SAY_TWO,))
        within = ("when", num(8), (), (turn,))
        when = ("when", num(9), (SAY_ONE, within), (SAY_THREE,))
        last = ("set", "a", num(0))
        self.assertEqual(
            rows_of(deed("a", (), [turn, when, last])),
            [turn, SAY_TWO, when, SAY_ONE, within, turn, SAY_TWO, SAY_THREE, last],
        )

    def test_rows_of_none(self):
        self.assertEqual(rows_of(deed("a")), [])
        self.assertEqual(rows_of(deed("a", (), [("turn", num(1), ())])), [("turn", num(1), ())])

    def test_rows_of_any_book(self):
        deep = turned(24, SAY_ONE)
        rows = rows_of(deed("a", (), [deep] * 33))
        self.assertEqual(len(rows), 33 * 24)
        self.assertEqual(rows[0], deep)
        self.assertEqual(rows[23], SAY_ONE)

    def test_calls_in_reading_order(self):
        rows = [
            call(7, "b"),
            ("when", num(1), (call(3, "a"), ("turn", num(2), (call(9, "b"),))), (call(0, "c"),)),
            SAY_ONE,
            call(1, "a", [num(1), num(2)]),
        ]
        self.assertEqual(calls_of(deed("a", (), rows)), [(7, "b"), (3, "a"), (9, "b"), (0, "c"), (1, "a")])

    def test_calls_of_none(self):
        self.assertEqual(calls_of(deed("a", (), [SAY_ONE, ("turn", num(1), ())])), [])

    def test_a_mark_may_stand_several_times_in_any_book(self):
        self.assertEqual(calls_of(deed("a", (), [call(4, "b")] * 3)), [(4, "b")] * 3)


class OwnNames(unittest.TestCase):
    def test_params_in_their_order_then_the_others_sorted(self):
        rows = [("set", "c", num(1)), ("set", "aa", nam("z")), ("set", "a", nam("b"))]
        self.assertEqual(own_names(deed("d", ["z", "b", "m"], rows)), ["z", "b", "m", "a", "aa", "c"])

    def test_none(self):
        self.assertEqual(own_names(deed("a", (), [SAY_ONE])), [])

    def test_params_that_stand_nowhere_else(self):
        self.assertEqual(own_names(deed("a", "qp")), ["q", "p"])

    def test_each_place_where_a_name_can_stand(self):
        places = {
            "set": [("set", "k", num(1))],
            "set to": [("set", "p", nam("k"))],
            "say": [("say", ("plus", num(1), ("less", nam("k"), nam("p"))))],
            "hold": [call(0, "a", [num(1)], "k")],
            "arg": [call(0, "a", [nam("p"), ("over", num(1), nam("k"))], "p")],
            "when": [("when", nam("k"), (), ())],
            "turn": [("turn", nam("k"), ())],
            "within when": [("when", num(1), (("say", nam("k")),), ())],
            "within others": [("when", num(1), (), (("set", "k", num(1)),))],
            "within turn": [("turn", num(1), (call(0, "a", [], "k"),))],
        }
        for place, rows in places.items():
            with self.subTest(place):
                self.assertEqual(own_names(deed("a", "p", rows)), ["p", "k"])
        self.assertEqual(own_names(deed("a", "p", [], ("plus", nam("k"), nam("p")))), ["p", "k"])

    def test_names_with_numbers_are_no_own_names(self):
        rows = [
            ("set", "b.1", nam("c.22")),
            ("say", ("plus", nam("b"), nam("a.3"))),
            call(0, "a", [nam("p.1")], "d.4"),
            ("when", nam("e.5"), (("turn", nam("f.6"), ()),), ()),
        ]
        self.assertEqual(own_names(deed("a", "p", rows, nam("g.7"))), ["p", "b"])

    def test_names_of_deeds_are_none(self):
        self.assertEqual(own_names(deed("dd", (), [call(0, "ee", [], "x")])), ["x"])


class Sizes(unittest.TestCase):
    def test_of_a_deed(self):
        self.assertEqual(size_of(deed("a")), 1)
        self.assertEqual(size_of(deed("a", "pq", [SAY_ONE, SAY_ONE])), 3)
        when = ("when", num(1), (SAY_ONE, ("turn", num(1), (SAY_ONE,))), (SAY_TWO, SAY_TWO))
        self.assertEqual(size_of(deed("a", (), [when, SAY_ONE])), 8)

    def test_of_a_book(self):
        self.assertEqual(book_size((deed("a"),)), 1)
        self.assertEqual(book_size((deed("a", (), [SAY_ONE]), deed("b"), deed("c", (), [turned(3, SAY_ONE)]))), 7)

    def test_of_a_great_book(self):
        self.assertEqual(book_size((deed("a", (), [turned(24, SAY_ONE)] * 33), deed("b"))), 794)


class TrimmedBooks(unittest.TestCase):
    def names(self, deeds):
        book = tuple(deeds)
        trimmed = trimmed_book(book)
        self.assertIs(type(trimmed), tuple)
        self.assertEqual([one for one in book if one in trimmed], list(trimmed))
        return "".join(one[0] for one in trimmed)

    def test_one_deed(self):
        self.assertEqual(self.names([deed("a")]), "a")
        self.assertEqual(self.names([deed("a", (), [call(0, "a")])]), "a")

    def test_a_deed_that_nothing_calls_goes(self):
        self.assertEqual(self.names([deed("a"), deed("b")]), "a")
        self.assertEqual(self.names([deed("a", (), [call(0, "c")]), deed("b"), deed("c")]), "ac")

    def test_a_deed_that_only_an_unreached_one_calls_goes(self):
        deeds = [deed("a"), deed("b", (), [call(0, "c")]), deed("c", (), [call(1, "a"), call(2, "b")])]
        self.assertEqual(self.names(deeds), "a")

    def test_reached_by_several_steps_in_the_order_of_the_book(self):
        deeds = [
            deed("a", (), [call(0, "d")]),
            deed("b", (), [call(1, "e")]),
            deed("c"),
            deed("d", (), [call(2, "b")]),
            deed("e"),
        ]
        self.assertEqual(self.names(deeds), "abde")

    def test_rings(self):
        deeds = [
            deed("a", (), [call(0, "c")]),
            deed("b", (), [call(1, "d")]),
            deed("c", (), [call(2, "e")]),
            deed("d", (), [call(3, "b")]),
            deed("e", (), [call(4, "c"), call(5, "e"), call(6, "a")]),
        ]
        self.assertEqual(self.names(deeds), "ace")

    def test_calls_within_rows_reach(self):
        deeds = [
            deed("a", (), [("when", num(0), (call(0, "b"),), (("turn", num(0), (call(1, "c"),)),))]),
            deed("b"), deed("c"), deed("d"),
        ]
        self.assertEqual(self.names(deeds), "abc")

    def test_deeds_stay_as_they_are(self):
        first = deed("a", "pq", [("set", "x.1", nam("p")), call(7, "b"), call(7, "b")], nam("x.1"))
        book = (first, deed("c"), deed("b", (), [SAY_ONE]))
        self.assertEqual(trimmed_book(book), (first, deed("b", (), [SAY_ONE])))


class ToldLists(unittest.TestCase):
    def test_each_told_list_is_a_new_one(self):
        one = deed("a", "p", [call(0, "a", [num(1)]), SAY_ONE])
        empty = deed("a")
        for asked in [rows_of, own_names, calls_of]:
            for about in [one, empty]:
                with self.subTest(asked.__name__):
                    told = asked(about)
                    again = asked(about)
                    self.assertIs(type(told), list)
                    self.assertIsNot(told, again)
                    told.append("more")
                    told.reverse()
                    self.assertEqual(asked(about), again)

    def test_what_is_handed_in_stays(self):
        book = (deed("a", "p", [call(0, "b", []), turned(3, SAY_ONE)]), deed("b"), deed("c"))
        before = copy.deepcopy(book)
        trimmed_book(book)
        book_size(book)
        deed_of(book, "b")
        for one in book:
            rows_of(one)
            own_names(one)
            calls_of(one)
            size_of(one)
        self.assertEqual(book, before)


if __name__ == "__main__":
    unittest.main()

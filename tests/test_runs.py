import copy
import sys
import unittest

from callfold.errors import TooDeep, TooLong, WrongCount
from callfold.runs import run_book
from callfold.texts import read_book
from shapes import call, deed, nam, num, turned

BREAKS = ("over", num(1), num(0))
SAY_ONE = ("say", num(1))
NO_ROUND = ("turn", num(10), ())


def run_text(text, *values):
    return run_book(read_book(text), list(values))


def run_rows(*rows, others=(), give=("number", 0)):
    return run_book((deed("main", (), rows, give),) + tuple(others), [])


def rows_of_rounds(many):
    """Rows that make just so many rounds, nine or more: a turn's nine, the says in them, and says behind."""
    rest = many % 9
    return [("turn", num(9), (SAY_ONE,) * (many // 9 - 1))] + [SAY_ONE] * rest


def deeper(*inmost, rows=()):
    """A deed that calls itself till its param is 0, and then does the inmost rows."""
    again = call(5, "main", [("less", nam("n"), num(1))])
    return (deed("main", "n", list(rows) + [("when", nam("n"), (again,), tuple(inmost))], nam("x")),)


class Rows(unittest.TestCase):
    def test_the_smallest_book(self):
        self.assertEqual(run_text("deed a\ngive 0"), ("done", [], 0, 0, {}))

    def test_each_kind_of_row(self):
        text = """deed main a b
set x (a+b)
say x
when (a<b)
say 1
else
say 2
end
turn 3
set x (x*2)
end
call y half 4 x 2
say y
give (y+1)
deed half n m
say n
give (n/m)"""
        self.assertEqual(run_text(text, 2, 3), ("done", [5, 1, 40, 20], 21, 11, {4: 1}))
        self.assertEqual(run_text(text, 3, 2), ("done", [5, 2, 40, 20], 21, 11, {4: 1}))

    def test_params_take_the_values_in_their_order(self):
        told = run_text("deed a q p r\nsay q\nsay p\nsay r\ngive (q-p)", 9, 4, 1)
        self.assertEqual(told, ("done", [9, 4, 1], 5, 3, {}))

    def test_names_are_worth_nought_at_first(self):
        self.assertEqual(run_text("deed a p\nsay x\nset x (x+p)\nsay x\ngive y", 6), ("done", [0, 6], 0, 3, {}))

    def test_in_each_call_anew(self):
        text = "deed a\nturn 3\ncall x b 0\nsay x\nend\ngive x\ndeed b\nset n (n+1)\nset x (x+n)\ngive x"
        self.assertEqual(run_text(text), ("done", [1, 1, 1], 1, 13, {0: 3}))

    def test_a_called_deed_has_names_of_its_own(self):
        text = "deed a\nset n 5\nset m 6\ncall x b 0 (n+1)\nsay n\nsay m\nsay x\ngive 0\n" \
               "deed b n\nsay n\nsay m\nset m 9\nset n 8\nset x 7\ngive 3"
        self.assertEqual(run_text(text), ("done", [6, 0, 5, 6, 3], 0, 11, {0: 1}))

    def test_a_deed_that_calls_itself_has_them_too(self):
        text = "deed a n\nset m n\nwhen n\ncall x a 0 (n-1)\nelse\nend\nsay m\ngive (m+x)"
        self.assertEqual(run_text(text, 3), ("done", [0, 1, 2, 3], 6, 4 * 3 + 3, {0: 3}))

    def test_what_is_given_may_go_to_a_param_or_a_name_of_the_args(self):
        text = "deed a n\ncall n b 0 (n+1) n\nsay n\ngive n\ndeed b p q\nsay p\nsay q\ngive (p*q)"
        self.assertEqual(run_text(text, 4), ("done", [5, 4, 20], 20, 4, {0: 1}))

    def test_when_takes_any_worth_but_nought(self):
        text = "deed a p\nwhen p\nsay 1\nsay 2\nelse\nsay 3\nend\nsay 4\ngive 0"
        for worth in [1, 2, 10, 999999]:
            self.assertEqual(run_text(text, worth), ("done", [1, 2, 4], 0, 4, {}))
        self.assertEqual(run_text(text, 0), ("done", [3, 4], 0, 3, {}))

    def test_when_without_rows(self):
        for worth in [0, 1]:
            self.assertEqual(run_text("deed a p\nwhen p\nelse\nend\ngive p", worth), ("done", [], worth, 1, {}))

    def test_when_is_reckoned_once(self):
        text = "deed a p\nwhen p\nset p 0\nsay 1\nelse\nset p 1\nsay 2\nend\ngive p"
        self.assertEqual(run_text(text, 1), ("done", [1], 0, 3, {}))
        self.assertEqual(run_text(text, 0), ("done", [2], 1, 3, {}))

    def test_turn_goes_by_what_is_left_of_ten(self):
        for worth, many in [(0, 0), (1, 1), (9, 9), (10, 0), (11, 1), (23, 3), (100, 0), (999999, 9)]:
            with self.subTest(worth):
                told = run_text("deed a p\nturn p\nset x (x+1)\nend\ngive x", worth)
                self.assertEqual(told, ("done", [], many, 1 + many, {}))

    def test_turn_is_reckoned_once_ahead(self):
        text = "deed a p\nturn p\nset p (p+1)\nsay p\nend\ngive p"
        self.assertEqual(run_text(text, 3), ("done", [4, 5, 6], 6, 7, {}))
        self.assertEqual(run_text("deed a p\nturn p\nset p 0\nend\ngive p", 5), ("done", [], 0, 6, {}))

    def test_turn_without_rows(self):
        self.assertEqual(run_text("deed a p\nturn p\nend\ngive p", 7), ("done", [], 7, 1, {}))

    def test_turns_within_turns(self):
        text = "deed a\nturn 3\nset i (i+1)\nturn i\nsay i\nend\nend\ngive 0"
        self.assertEqual(run_text(text), ("done", [1, 2, 2, 3, 3, 3], 0, 1 + 3 + 3 + 6, {}))

    def test_rows_go_on_behind_those_within(self):
        text = "deed a\nturn 2\nwhen x\nsay 1\nelse\nsay 2\nend\nset x 1\nend\nsay 3\ngive x"
        self.assertEqual(run_text(text), ("done", [2, 1, 3], 1, 1 + 2 * 3 + 1, {}))

    def test_the_give_comes_behind_all_rows(self):
        self.assertEqual(run_text("deed a p\nset p 4\ngive (p+p)", 1), ("done", [], 8, 1, {}))

    def test_a_name_that_is_set_is_reckoned_with_from_then_on(self):
        self.assertEqual(run_text("deed a p\nset p (p+p)\nset p (p+p)\ngive p", 3), ("done", [], 12, 2, {}))

    def test_only_the_first_deed_runs_by_itself(self):
        self.assertEqual(run_text("deed b\nsay 2\ngive 3\ndeed a\nsay 1\ngive 0"), ("done", [2], 3, 1, {}))


class Calls(unittest.TestCase):
    def test_calls_are_counted_by_their_marks(self):
        text = "deed a\ncall x b 7\nturn 4\ncall x b 3\nend\nwhen 0\ncall x b 1\nelse\nend\ngive x\n" \
               "deed b\ncall x c 99\ngive x\ndeed c\ngive 8"
        self.assertEqual(run_text(text), ("done", [], 8, 1 + 1 + 4 + 1 + 5, {7: 1, 3: 4, 99: 5}))

    def test_one_mark_at_several_calls(self):
        rows = [call(2, "b"), ("turn", num(3), (call(2, "b"), call(4, "b")))]
        told = run_rows(*rows, others=[deed("b", (), [call(4, "c")]), deed("c")])
        self.assertEqual(told, ("done", [], 0, 1 + 1 + 6 + 7, {2: 4, 4: 3 + 7}))

    def test_args_from_left_to_right(self):
        text = "deed a\ncall x b 0 1 2 3 4\ngive x\ndeed b s r q p\nsay s\nsay r\nsay q\nsay p\ngive 0"
        self.assertEqual(run_text(text), ("done", [1, 2, 3, 4], 0, 5, {0: 1}))

    def test_names_with_numbers_are_names_like_others(self):
        rows = [("set", "n.1", num(5)), ("set", "n.2", ("plus", nam("n.1"), nam("n"))), ("say", nam("n.2")),
                call(1, "b", [nam("n.2")], "n.1"), ("say", nam("n.1")), ("say", nam("n.3"))]
        told = run_rows(*rows, others=[deed("b", "p", [("say", nam("n.1")), ("set", "n.2", num(1))], nam("p"))])
        self.assertEqual(told, ("done", [5, 0, 5, 0], 0, 8, {1: 1}))

    def test_deep_rows_in_deep_calls(self):
        again = call(0, "main", [("less", nam("n"), num(1))])
        row = turned(23, ("when", nam("n"), (again,), (("say", num(7)),)))
        book = (deed("main", "n", [row], ("plus", nam("x"), num(1))),)
        limit = sys.getrecursionlimit()
        # Neither Python's recursion nor its limit may have a say in how deep a run goes.
        sys.setrecursionlimit(400)
        try:
            told = run_book(book, [19])
        finally:
            sys.setrecursionlimit(limit)
        self.assertEqual(told, ("done", [7], 20, 20 * 23 + 20, {0: 19}))

    def test_a_great_book(self):
        told = run_rows(*[("set", "n", ("plus", nam("n"), num(1)))] * 799, give=nam("n"))
        self.assertEqual(told, ("done", [], 799, 799, {}))


class Breaks(unittest.TestCase):
    def broken(self, said, *rows, **more):
        self.assertEqual(run_rows(*rows, **more), ("broken", said))

    def test_in_each_kind_of_row(self):
        others = [deed("b", "pq", [("say", num(9))])]
        for row in [("set", "x", BREAKS), ("say", BREAKS), ("when", BREAKS, (SAY_ONE,), (SAY_ONE,)),
                    ("turn", BREAKS, (SAY_ONE,)), call(0, "b", [BREAKS, num(1)]), call(0, "b", [num(1), BREAKS])]:
            with self.subTest(row[0]):
                self.broken([3, 4], ("say", num(3)), ("say", num(4)), row, ("say", num(5)), others=others)

    def test_ahead_of_all(self):
        self.broken([], ("set", "x", BREAKS), SAY_ONE)

    def test_in_the_give(self):
        self.broken([1], SAY_ONE, give=BREAKS)
        self.broken([], give=("rest", num(4), nam("x")))

    def test_in_a_called_deed(self):
        self.broken([1, 2], SAY_ONE, call(0, "b"), SAY_ONE, others=[deed("b", (), [("say", num(2)), ("say", BREAKS)])])
        self.broken([1, 2], SAY_ONE, call(0, "b"), SAY_ONE, others=[deed("b", (), [("say", num(2))], BREAKS)])

    def test_within_rows(self):
        self.broken([1], ("when", num(1), (SAY_ONE, ("say", BREAKS)), ()), SAY_ONE)
        self.broken([1], ("when", num(0), (), (SAY_ONE, ("say", BREAKS))), SAY_ONE)
        self.broken([1], ("turn", num(3), (SAY_ONE, ("say", BREAKS))), SAY_ONE)

    def test_in_a_later_round(self):
        text = "deed a p\nturn 9\nset p (p-1)\nsay (12/p)\nend\ngive 0"
        self.assertEqual(run_text(text, 4), ("broken", [4, 6, 12]))

    def test_what_is_not_done_does_not_break(self):
        told = run_rows(("when", num(1), (), (("say", BREAKS),)), ("when", num(0), (("say", BREAKS),), ()),
                        ("turn", num(20), (("say", BREAKS),)))
        self.assertEqual(told, ("done", [], 0, 3, {}))

    def test_by_the_values(self):
        text = "deed a p q\nsay p\ngive (p:q)"
        self.assertEqual(run_text(text, 7, 4), ("done", [7], 3, 1, {}))
        self.assertEqual(run_text(text, 7, 0), ("broken", [7]))


class Refused(unittest.TestCase):
    def refused(self, error, book, *values):
        with self.assertRaises(error) as caught:
            run_book(book, list(values))
        self.assertIs(type(caught.exception), error)

    def refused_rows(self, error, *rows, others=()):
        self.refused(error, (deed("main", (), rows),) + tuple(others))

    def test_wrong_count(self):
        self.refused(WrongCount, (deed("a"),), 1)
        self.refused(WrongCount, (deed("a", "p"),))
        self.refused(WrongCount, (deed("a", "pqrs"),), 1, 2, 3)
        self.refused(WrongCount, (deed("a", "pqrs"),), 1, 2, 3, 4, 5)

    def test_wrong_count_goes_ahead_of_the_run(self):
        self.refused(WrongCount, (deed("a", (), [("say", BREAKS)]),), 1)
        self.refused(WrongCount, (deed("a", "p", [call(0, "a", [nam("p")])]),))
        self.refused(WrongCount, (deed("a", "p", rows_of_rounds(1001)),))

    def test_twenty_deeds_within_one_another_and_the_next(self):
        self.assertEqual(run_book(deeper(), [19]), ("done", [], 0, 20 + 19, {5: 19}))
        self.refused(TooDeep, deeper(), 20)

    def test_depth_is_left_again(self):
        book = (deed("main", (), [call(0, "b", [num(18)]), ("turn", num(2), (call(1, "b", [num(18)]),))]),
                deed("b", "n", [("when", nam("n"), (call(2, "b", [("less", nam("n"), num(1))]),), ())]))
        self.assertEqual(run_book(book, []), ("done", [], 0, 4 + 3 * (19 + 18), {0: 1, 1: 2, 2: 3 * 18}))

    def test_a_ring_of_deeds_goes_too_deep(self):
        self.refused(TooDeep, (deed("a", (), [call(0, "b")]), deed("b", (), [call(1, "a")])))

    def test_three_hundred_calls_and_the_next(self):
        others = [deed("b")]
        told = run_rows(*[call(7, "b")] * 300, others=others)
        self.assertEqual(told, ("done", [], 0, 300, {7: 300}))
        self.refused_rows(TooLong, *[call(7, "b")] * 301, others=others)

    def test_calls_of_all_marks_and_deeds_are_counted_together(self):
        others = [deed("b", (), [call(1, "c")] * 9), deed("c")]
        told = run_rows(*[call(2, "b")] * 30, others=others)
        self.assertEqual(told, ("done", [], 0, 300, {2: 30, 1: 270}))
        self.refused_rows(TooLong, *[call(2, "b")] * 30, call(3, "c"), others=others)

    def test_a_thousand_rounds_and_the_next(self):
        told = run_rows(*rows_of_rounds(1000))
        self.assertEqual(told, ("done", [1] * 991, 0, 1 + 991, {}))
        self.refused_rows(TooLong, *rows_of_rounds(1001))

    def test_each_kind_of_round_may_be_the_one_too_many(self):
        for row in [SAY_ONE, ("when", num(1), (), ()), ("when", num(0), (), ()), ("turn", num(1), ()),
                    ("turn", num(1), (("set", "x", num(1)),))]:
            with self.subTest(str(row)):
                self.assertEqual(run_rows(*rows_of_rounds(999), row)[0], "done")
                self.refused_rows(TooLong, *rows_of_rounds(1000), row)

    def test_each_round_of_a_turn_counts(self):
        for rows in [(), (("set", "x", num(1)),)]:
            self.assertEqual(run_rows(*rows_of_rounds(995), ("turn", num(5), rows))[0], "done")
            self.refused_rows(TooLong, *rows_of_rounds(995), ("turn", num(6), rows))
            self.refused_rows(TooLong, *rows_of_rounds(996), ("turn", num(5), rows))

    def test_rounds_of_whens_and_of_turns_alone(self):
        when = ("when", nam("x"), (), ())
        self.assertEqual(run_rows(("turn", num(9), (when,) * 110), when), ("done", [], 0, 1 + 990 + 1, {}))
        self.refused_rows(TooLong, ("turn", num(9), (when,) * 110), when, when)
        turn = ("turn", num(9), ())
        self.assertEqual(run_rows(*[turn] * 111, ("turn", num(1), ())), ("done", [], 0, 112, {}))
        self.refused_rows(TooLong, *[turn] * 111, ("turn", num(2), ()))

    def test_what_is_no_round(self):
        others = [deed("b", "p", [("set", "p", num(2))], nam("p"))]
        behind = [("set", "x", num(1)), NO_ROUND, call(0, "b", [num(1)]), ("turn", nam("y"), (SAY_ONE,))]
        told = run_rows(*rows_of_rounds(1000), *behind, others=others, give=nam("x"))
        self.assertEqual(told, ("done", [1] * 991, 2, 992 + 5, {0: 1}))

    def test_rounds_in_called_deeds_count(self):
        others = [deed("b", (), rows_of_rounds(500))]
        self.assertEqual(run_rows(call(0, "b"), call(1, "b"), others=others)[0], "done")
        self.refused_rows(TooLong, call(0, "b"), call(1, "b"), SAY_ONE, others=others)
        self.refused_rows(TooLong, SAY_ONE, call(0, "b"), call(1, "b"), others=others)

    def test_many_rows_without_rounds_are_not_too_long(self):
        rows = (("set", "n", ("plus", nam("n"), num(1))),) * 700
        told = run_rows(("turn", num(9), (("turn", num(9), rows),)), give=nam("n"))
        self.assertEqual(told, ("done", [], 81 * 700, 1 + 9 + 81 * 700, {}))


class WhatComesFirst(unittest.TestCase):
    def refused(self, error, book, *values):
        with self.assertRaises(error) as caught:
            run_book(book, list(values))
        self.assertIs(type(caught.exception), error)

    def main(self, *rows, others=()):
        return (deed("main", (), rows),) + tuple(others)

    def test_a_round_begins_ahead_of_its_expression(self):
        for row in [("say", BREAKS), ("when", BREAKS, (), ())]:
            self.refused(TooLong, self.main(*rows_of_rounds(1000), row))
            self.assertEqual(run_book(self.main(*rows_of_rounds(999), row), [])[0], "broken")

    def test_the_count_of_a_turn_is_reckoned_ahead_of_its_rounds(self):
        self.assertEqual(run_book(self.main(*rows_of_rounds(1000), ("turn", BREAKS, ())), []), ("broken", [1] * 991))

    def test_args_go_ahead_of_too_deep(self):
        broken = deeper(("say", num(3)), call(6, "main", [BREAKS]))
        self.assertEqual(run_book(broken, [19]), ("broken", [3]))
        self.refused(TooDeep, deeper(("say", num(3)), call(6, "main", [num(0)])), 19)

    def test_args_go_ahead_of_too_many_calls(self):
        others = [deed("b", "p")]
        calls = [call(0, "b", [num(1)])] * 300
        self.assertEqual(run_book(self.main(*calls, call(1, "b", [BREAKS]), others=others), []), ("broken", []))
        self.refused(TooLong, self.main(*calls, call(1, "b", [num(2)]), others=others))

    def many_then_deep(self, many, *inmost):
        """Calls of b, so many, then 19 calls within one another, and the inmost rows in the twentieth deed."""
        again = call(2, "down", [("less", nam("n"), num(1))])
        down = deed("down", "n", [("when", nam("n"), (again,), inmost)])
        return self.main(*[call(0, "b")] * many, call(1, "down", [num(18)]), others=[down, deed("b")])

    def test_too_deep_goes_ahead_of_too_long_at_one_call(self):
        self.assertEqual(run_book(self.many_then_deep(281), [])[4], {0: 281, 1: 1, 2: 18})
        self.refused(TooDeep, self.many_then_deep(281, call(3, "b")))
        self.assertEqual(run_book(self.many_then_deep(281, call(3, "down", [BREAKS])), []), ("broken", []))
        self.refused(TooLong, self.many_then_deep(282, call(3, "b")))

    def test_a_round_too_many_ahead_of_a_call_too_deep(self):
        self.refused(TooLong, deeper(*rows_of_rounds(981), call(6, "main", [num(0)])), 19)
        self.refused(TooDeep, deeper(*rows_of_rounds(980), call(6, "main", [num(0)])), 19)
        self.refused(TooDeep, deeper(call(6, "main", [num(0)]), *rows_of_rounds(981)), 19)

    def test_breaking_ahead_of_what_is_refused_later(self):
        ring = call(0, "main")
        self.assertEqual(run_book(self.main(SAY_ONE, ("set", "x", BREAKS), ring), []), ("broken", [1]))
        self.refused(TooDeep, self.main(SAY_ONE, ring, ("set", "x", BREAKS)))
        self.assertEqual(run_book(self.main(("set", "x", BREAKS), *rows_of_rounds(1001)), []), ("broken", []))
        self.refused(TooLong, self.main(*rows_of_rounds(1001), ("set", "x", BREAKS)))

    def test_at_a_call_the_rounds_are_not_asked(self):
        book = deeper(*rows_of_rounds(980), call(6, "b"), rows=[]) + (deed("b", (), [SAY_ONE]),)
        self.assertEqual(run_book(deeper(*rows_of_rounds(980)), [19])[0], "done")
        self.refused(TooDeep, book, 19)
        self.refused(TooLong, deeper(*rows_of_rounds(981), call(6, "b")) + book[1:], 18)


class Told(unittest.TestCase):
    def setUp(self):
        self.book = read_book("deed a p\nsay p\ncall p b 0\nsay p\ngive p\ndeed b\nset x 4\ngive x")
        self.broken = read_book("deed a p\nsay p\nset p 0\ngive (1/p)")

    def test_what_is_handed_in_stays(self):
        for book in [self.book, self.broken]:
            before = copy.deepcopy(book)
            values = [6]
            run_book(book, values)
            self.assertEqual((book, values), (before, [6]))
        values = [1, 2]
        with self.assertRaises(WrongCount):
            run_book(self.book, values)
        self.assertEqual(values, [1, 2])

    def test_each_list_and_dict_is_a_new_one(self):
        for book in [self.book, self.broken]:
            told = run_book(book, [6])
            again = run_book(book, [6])
            self.assertEqual(told, again)
            told[1].append(7)
            if told[0] == "done":
                told[4][99] = 1
            self.assertEqual(run_book(book, [6]), again)

    def test_kinds(self):
        told = run_book(self.book, [6])
        self.assertEqual([type(part) for part in told], [str, list, int, int, dict])
        self.assertEqual([type(part) for part in run_book(self.broken, [6])], [str, list])
        self.assertIs(type(told), tuple)


if __name__ == "__main__":
    unittest.main()

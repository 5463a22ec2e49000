import unittest

from callfold.books import made_book
from callfold.errors import NoDeed, NoText, Twice, WrongCount
from callfold.texts import book_text, read_book
from shapes import call, deed, nam, nested, num, turned

FULL_TEXT = """deed main a b
set x (a+b)
say (x-1)
call y half 0 (x*2) 7
when (y<x)
turn (x:3)
call z main 42 y 0
end
else
say (a/b)
say (a=999999)
end
turn 4
end
when z
else
end
give ((a+b)-(x*(y/z)))
deed half n m
give (n:m)"""

FULL_BOOK = (
    ("main", ("a", "b"), (
        ("set", "x", ("plus", nam("a"), nam("b"))),
        ("say", ("less", nam("x"), num(1))),
        ("call", "y", "half", (("times", nam("x"), num(2)), num(7)), 0),
        ("when", ("under", nam("y"), nam("x")),
         (("turn", ("rest", nam("x"), num(3)), (("call", "z", "main", (nam("y"), num(0)), 42),)),),
         (("say", ("over", nam("a"), nam("b"))), ("say", ("same", nam("a"), num(999999))))),
        ("turn", num(4), ()),
        ("when", nam("z"), (), ()),
    ), ("less", ("plus", nam("a"), nam("b")), ("times", nam("x"), ("over", nam("y"), nam("z"))))),
    ("half", ("n", "m"), (), ("rest", nam("n"), nam("m"))),
)


def lines(*rows):
    return "\n".join(rows)


def within_deed(*rows):
    return lines("deed a p", *rows, "give 0")


class Written(unittest.TestCase):
    def test_each_kind_of_row(self):
        self.assertEqual(book_text(FULL_BOOK), FULL_TEXT)

    def test_the_smallest_book(self):
        self.assertEqual(book_text((deed("a"),)), "deed a\ngive 0")

    def test_each_sign(self):
        for word, sign in zip(["plus", "less", "times", "over", "rest", "under", "same"], "+-*/:<="):
            book = (deed("a", (), (), (word, nam("p"), num(10))),)
            self.assertEqual(book_text(book), f"deed a\ngive (p{sign}10)")

    def test_names_with_numbers(self):
        book = (deed("a", "p", [("set", "p.1", nam("q.23")), call(7, "a", [nam("p.1")], "r.4")], nam("p.1")),)
        self.assertEqual(book_text(book), "deed a p\nset p.1 q.23\ncall r.4 a 7 p.1\ngive p.1")

    def test_a_great_book(self):
        told = book_text((deed("a", (), [turned(24, call(3, "a"))] * 33),))
        deep = ["turn 1"] * 23 + ["call x a 3"] + ["end"] * 23
        self.assertEqual(told, "\n".join(["deed a"] + deep * 33 + ["give 0"]))

    def test_asked_again_the_same(self):
        self.assertEqual(book_text(FULL_BOOK), book_text(FULL_BOOK))


class ReadBack(unittest.TestCase):
    def same(self, deeds):
        book = made_book(deeds)
        self.assertEqual(read_book(book_text(book)), book)

    def test_each_kind_of_row(self):
        self.assertEqual(read_book(FULL_TEXT), FULL_BOOK)
        self.same(list(FULL_BOOK))

    def test_asked_again_the_same(self):
        self.assertEqual(read_book(FULL_TEXT), read_book(FULL_TEXT))

    def test_the_smallest_book(self):
        self.same([deed("a")])

    def test_names_like_the_words_of_rows(self):
        self.same([
            deed("deed", ["set", "say", "call", "when"], [
                ("set", "end", nam("else")),
                call(0, "give", [nam("turn")], "give"),
            ], nam("deed")),
            deed("give", ["end"]),
        ])

    def test_rows_within_rows(self):
        say = ("say", num(1))
        when = ("when", num(1), (say, say), (("turn", num(2), ()), say))
        self.same([deed("a", (), [when, ("turn", num(3), (when,)), ("when", num(4), (), (when, say))])])

    def test_each_bound_just_met(self):
        self.same([deed("abcdefgh", ["abcd", "b", "c", "d"], [("say", num(999999))])])
        self.same([deed(name) for name in "abcdefgh"])
        self.same([deed("a", (), [call(mark, "a") for mark in range(90, 100)])])
        self.same([deed("a", "pqrs", [call(0, "a", [num(1)] * 4)])])
        self.same([deed(name, (), [("say", num(1))] * 20) for name in "abc"])
        self.same([deed("a", (), [turned(3, ("say", num(1)))] * 6 + [("say", num(0))] * 2)])
        self.same([deed("a", (), [("turn", num(1), (("turn", num(1), (("when", num(1), (), ()),)),))])])
        self.same([deed("a", (), [("say", nested(5))], ("plus", num(1), nested(4)))])
        self.same([deed("a", "p", [call(0, "a", [nested(5)], "abcd"), ("set", "wxyz", nested(5))])])

    def test_numbers_at_their_edges(self):
        for value in [0, 1, 9, 10, 100000, 999999]:
            self.same([deed("a", (), [("say", num(value))], num(value))])
        for mark in [0, 1, 9, 10, 99]:
            self.same([deed("a", (), [call(mark, "a")])])


class NoTexts(unittest.TestCase):
    def refused(self, row, text):
        with self.subTest(text):
            with self.assertRaises(NoText) as caught:
                read_book(text)
            self.assertEqual(caught.exception.row, row)

    def refused_row(self, row):
        """A row that can't stand: seen as the second one, and ahead of a worse one."""
        self.refused(1, within_deed(row))
        self.refused(3, within_deed("say 1", "say 2", row, "nonsense", ""))

    def test_a_text_without_signs(self):
        self.refused(0, "")

    def test_empty_rows(self):
        self.refused(0, "\ndeed a\ngive 0")
        self.refused(1, "deed a\n\ngive 0")
        self.refused(2, "deed a\ngive 0\n")
        self.refused(2, "deed a\ngive 0\n\ndeed b\ngive 0")
        self.refused(0, "\n")
        self.refused(3, within_deed("turn 1", "say 1", "", "end"))

    def test_the_text_ends_too_early(self):
        self.refused(1, "deed a")
        self.refused(2, "deed a\nsay 1")
        self.refused(3, "deed a\nsay 1\nturn 2")
        self.refused(4, "deed a\nsay 1\nturn 2\nend")
        self.refused(2, "deed a\nwhen 1")
        self.refused(3, "deed a\nwhen 1\nelse")
        self.refused(4, "deed a\nwhen 1\nelse\nend")
        self.refused(3, "deed a\ngive 0\ndeed b")
        for count in list(range(1, 18)) + [19]:
            self.refused(count, "\n".join(FULL_TEXT.split("\n")[:count]))

    def test_a_row_that_cannot_stand_goes_ahead_of_the_early_end(self):
        self.refused(1, "deed a\nsay (1\nturn 2")
        self.refused(1, "deed a\nend")

    def test_any_but_deed_where_no_deed_is_there(self):
        for row in ["set x 1", "say 1", "call x a 0", "when 1", "else", "end", "turn 1", "give 0", "nonsense"]:
            self.refused(0, lines(row, "deed a", "give 0"))
            self.refused(2, lines("deed a", "give 0", row))
            self.refused(2, lines("deed a", "give 0", row, "deed b", "give 0"))

    def test_deed_where_one_cannot_be(self):
        self.refused_row("deed b")
        self.refused(2, lines("deed a", "say 1", "deed b", "give 0"))
        self.refused(2, within_deed("turn 1", "deed b", "end"))
        self.refused(3, within_deed("when 1", "else", "deed b", "end"))

    def test_give_where_one_cannot_be(self):
        self.refused(2, within_deed("turn 1", "give 0", "end"))
        self.refused(2, within_deed("when 1", "give 0", "else", "end"))
        self.refused(3, within_deed("when 1", "else", "give 0", "end"))
        self.refused(2, lines("deed a", "give 0", "give 0"))

    def test_else_or_end_that_closes_nothing(self):
        self.refused_row("else")
        self.refused_row("end")
        self.refused(3, within_deed("turn 1", "end", "end"))
        self.refused(4, within_deed("when 1", "else", "end", "end"))
        self.refused(4, within_deed("when 1", "else", "end", "else"))
        self.refused(2, within_deed("turn 1", "else", "end"))
        self.refused(3, within_deed("when 1", "else", "else", "end"))
        self.refused(4, within_deed("when 1", "turn 1", "say 1", "else", "end", "end"))

    def test_end_of_a_when_without_its_else(self):
        self.refused(2, within_deed("when 1", "end"))
        self.refused(3, within_deed("when 1", "say 1", "end"))
        self.refused(3, within_deed("turn 1", "when 1", "end", "else", "end"))

    def test_rows_of_no_kind(self):
        for row in ["nonsense", "SAY 1", "sayy 1", "sa 1", "+", "1", "a", "(a+b)", "#", "give", "deed"]:
            self.refused_row(row)

    def test_words_too_many_or_too_few(self):
        for row in ["set", "set x", "set x 1 2", "say", "say 1 2", "call", "call x", "call x a", "when", "when 1 2",
                    "turn", "turn 1 2", "give", "give 1 2"]:
            self.refused_row(row)
        for row in ["else 1", "end 1", "deed b p"]:
            self.refused_row(row)
        self.refused(2, within_deed("turn 1", "end 1"))
        self.refused(2, within_deed("when 1", "else 1", "end"))
        self.refused(3, within_deed("when 1", "else", "end end"))
        self.refused(0, lines("deed", "give 0"))

    def test_blanks(self):
        for row in [" say 1", "say 1 ", "say  1", " ", "  ", "say ", "set x (a + b)", "set x ( a+b)", "say (a+ b)",
                    "call x a 0 ", "call x a 0  1", "call  x a 0", "give 0 ", " give 0"]:
            self.refused_row(row)
        self.refused(2, within_deed("turn 1", "end "))
        self.refused(2, within_deed("turn 1", " end"))
        self.refused(2, within_deed("when 1", "else ", "end"))
        for row in ["deed a ", "deed  a", " deed a", "deed a  p", "deed a p "]:
            self.refused(0, lines(row, "give 0"))

    def test_wrong_names(self):
        for name in ["abcde", "A", "aB", "a1", "1", "0", "a.1", ".1", "a.", "a_b", "(a)", "-", "a'"]:
            self.refused_row(f"set {name} 1")
            self.refused_row(f"call {name} a 0 1")
            self.refused(0, lines(f"deed a {name}", "give 0"))
            self.refused(0, lines(f"deed a p {name} q", "give 0"))

    def test_wrong_names_of_deeds(self):
        for name in ["abcdefghi", "A", "mainA", "a1", "1", "a.1", "(a)", "a-b"]:
            self.refused(0, lines(f"deed {name}", "give 0"))
            self.refused_row(f"call x {name} 0 1")

    def test_wrong_marks(self):
        for mark in ["100", "101", "999", "00", "01", "007", "a", "-1", "+1", "1.", "(1)", "9" * 5000]:
            self.refused_row(f"call x a {mark} 1")

    def test_more_than_four_params_or_args(self):
        self.refused(0, lines("deed a p q r s t", "give 0"))
        self.refused(2, lines("deed a p q r s", "give 0", "deed b p q r s t", "give 0"))
        self.refused_row("call x a 0 1 2 3 4 5")

    def test_wrong_expressions(self):
        wrong = [
            "1000000", "9999999", "00", "01", "0123", "-1", "+1", "1.0", "9" * 5000,
            "abcde", "A", "a1", "1a", "a.1", "a.12", "aB", "a_", ".",
            "()", "(a)", "(1)", "((a))", "a+b", "(a+b", "a+b)", "(a+)", "(+b)", "(a+b)c", "(a+b))", "((a+b)", "(a+b)(",
            "(a+b+c)", "(a++b)", "(ab)", "(a(b)", "(a!b)", "(a>b)", "(a,b)", "(a==b)", "(a;b)", "[a+b]", "(a+b]",
            "(a+1000000)", "(01+a)", "(a.1+b)", "(abcde+b)", "(a+b)+c", "(a+b)+(c+d)", "(1a+b)", "(a+b)1",
            "(", ")", "+", "(" * 5000, "(" * 5000 + "1" + "+1)" * 5000,
        ]
        for word in wrong:
            for row in [f"set x {word}", f"say {word}", f"call x a 0 {word}", f"when {word}", f"turn {word}",
                        f"give {word}"]:
                self.refused(1, within_deed(row))

    def test_each_sign_by_itself_and_behind_others(self):
        signs = [chr(number) for number in range(33, 127) if number != 37]
        for sign in signs:
            if not ("a" <= sign <= "z" or "0" <= sign <= "9"):
                self.refused_row(f"say {sign}")
                self.refused_row(f"say a{sign}")
            if not "a" <= sign <= "z":
                self.refused_row(f"set {sign} 1")
                self.refused_row(f"set a{sign} 1")
                self.refused(0, lines(f"deed {sign}", "give 0"))
            if not "0" <= sign <= "9":
                self.refused_row(f"say 1{sign}")
                self.refused_row(f"call x a {sign} 1")
                self.refused_row(f"call x a 1{sign} 1")
            if sign not in "+-*/:<=":
                self.refused_row(f"say (1{sign}a)" if not sign.isdigit() else f"say (1{sign})")
            if sign != ")":
                self.refused_row(f"say (a+(b-1){sign}")

    def test_a_wrong_arg_behind_right_ones(self):
        self.refused_row("call x a 0 1 2 (3")

    def test_expressions_deeper_than_five(self):
        for word in ["((((1+1)+1)+1)+1)", "(1+(1+(1+(1+1))))", "(1+((1+(1+a))+1))"]:
            read_book(within_deed(f"say {word}"))
        for word in ["(((((1+1)+1)+1)+1)+1)", "(1+(1+(1+(1+(1+1)))))", "(1+((1+(1+(1+a)))+1))"]:
            for row in [f"set x {word}", f"say {word}", f"call x a 0 {word}", f"when {word}", f"turn {word}",
                        f"give {word}"]:
                self.refused(1, within_deed(row))

    def test_a_row_four_deep(self):
        self.refused(4, within_deed("turn 1", "turn 1", "turn 1", "say 1", "end", "end", "end"))
        self.refused(4, within_deed("when 1", "turn 1", "when 1", "turn 1", "end", "else", "end", "end", "else", "end"))
        self.refused(5, within_deed("when 1", "turn 1", "when 1", "else", "set x 1", "end", "end", "else", "end"))
        self.refused(6, within_deed("when 1", "else", "when 1", "else", "when 1", "call x a 0"))

    def test_the_depth_is_left_again(self):
        rows = ["turn 1", "turn 1", "end", "turn 1", "say 1", "end", "end", "turn 1", "turn 1", "say 1", "end", "end"]
        read_book(within_deed(*rows))

    def test_a_twenty_first_row(self):
        self.refused(21, within_deed(*["say 1"] * 21))
        self.refused(20 + 4, lines("deed b", "say 1", "give 0", within_deed(*["say 1"] * 21)))
        rows = ["when 1", "say 1", "else", "say 1", "end"] * 6
        read_book(within_deed(*rows, "say 1", "say 1"))
        self.refused(33, within_deed(*rows, "say 1", "say 1", "say 1"))
        self.refused(33, within_deed(*rows, "say 1", "turn 1", "say 1", "end"))

    def test_an_eleventh_call(self):
        calls = [f"call x a {mark} 1" for mark in range(12)]
        self.refused(11, within_deed(*calls))
        self.refused(13, lines(within_deed(*calls[:5]), "deed b", *calls[5:], "give 0"))
        self.refused(13, within_deed(*calls[:10], "say 1", "turn 1", calls[10], "end"))

    def test_a_ninth_deed(self):
        deeds = [f"deed {name}\ngive 0" for name in "abcdefghi"]
        self.refused(16, lines(*deeds))
        self.refused(16, lines(*deeds[:8], "deed"))

    def test_the_first_wrong_row_is_told(self):
        self.refused(1, within_deed("say", "say", "nonsense"))
        self.refused(2, within_deed("say 1", "say 1000000", "end"))

    def test_a_row_goes_ahead_of_the_refusals_of_books(self):
        self.refused(4, lines("deed a p p", "give 0", "deed a", "call x b 0", "say (", "give 0"))
        self.refused(4, lines("deed a", "give 0", "deed a", "give 0", ""))
        self.refused(2, "deed a\ncall x b 0")


class RefusedBooks(unittest.TestCase):
    def refused(self, error, text):
        with self.subTest(text):
            with self.assertRaises(error) as caught:
                read_book(text)
            self.assertIs(type(caught.exception), error)

    def test_twice(self):
        self.refused(Twice, "deed a\ngive 0\ndeed a\ngive 0")
        self.refused(Twice, "deed a p q p\ngive 0")
        self.refused(Twice, "deed a\ncall x a 3\ncall x a 3\ngive 0")
        self.refused(Twice, "deed a\ncall x b 3\ngive 0\ndeed b\ncall x a 3\ngive 0")

    def test_no_deed(self):
        self.refused(NoDeed, "deed a\ncall x b 3\ngive 0")

    def test_wrong_count(self):
        self.refused(WrongCount, "deed a p\ncall x a 3\ngive 0")
        self.refused(WrongCount, "deed a p\ncall x a 3 1 2\ngive 0")

    def test_the_order_among_several(self):
        self.refused(Twice, "deed a p\ncall x b 3\ncall x a 3\ngive 0\ndeed a\ngive 0")
        self.refused(NoDeed, "deed a p\ncall x b 3\ncall x a 3\ngive 0")
        self.refused(WrongCount, "deed a p\ncall x a 3\ncall x b 3\ngive 0")
        self.refused(Twice, "deed a\ncall x a 3\ncall x a 3\ncall x b 4\ngive 0")


if __name__ == "__main__":
    unittest.main()

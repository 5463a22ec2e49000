import copy
import random
import unittest

from callfold.books import book_size, calls_of, own_names, rows_of
from callfold.errors import NoCall, NoDeed, TooBig
from callfold.placing import is_alike, place_call, tidy_book
from callfold.runs import run_book
from callfold.texts import book_text, read_book
from shapes import call, deed, drawn_book, nam, num, turned

SAY_ONE = ("say", num(1))


def setting(name, expression):
    return ("set", name, expression)


def numbers_in_order(rows, give):
    """The numbers behind names as point 13 tells their order, found anew here."""
    found = []

    def see(name):
        if "." in name:
            found.append(int(name.split(".")[1]))

    def see_expression(e):
        if e[0] == "name":
            see(e[1])
        elif e[0] != "number":
            see_expression(e[1])
            see_expression(e[2])

    def see_rows(part):
        for row in part:
            if row[0] == "set":
                see_expression(row[2])
                see(row[1])
            elif row[0] == "call":
                for arg in row[3]:
                    see_expression(arg)
                see(row[1])
            else:
                see_expression(row[1])
                for inner in row[2:]:
                    see_rows(inner)

    see_rows(rows)
    see_expression(give)
    return found


def is_tidy(book):
    for one in book:
        first_seen = list(dict.fromkeys(numbers_in_order(one[2], one[3])))
        if first_seen != list(range(1, len(first_seen) + 1)):
            return False
    return True


class Placed(unittest.TestCase):
    def placed(self, text, name, at, wanted):
        told = place_call(read_book(text), name, at)
        self.assertEqual(book_text(told), wanted)
        self.assertTrue(is_tidy(told))

    def test_binds_rows_and_give(self):
        self.placed(
            "deed main a\nsay a\ncall x half 3 (a+1)\nsay x\ngive x\ndeed half n\nset m (n/2)\nsay (m+n)\ngive (m-n)",
            "main", 0,
            "deed main a\nsay a\nset n.1 (a+1)\nset m.1 0\nset m.1 (n.1/2)\nsay (m.1+n.1)\nset x (m.1-n.1)\nsay x\n"
            "give x\ndeed half n\nset m (n/2)\nsay (m+n)\ngive (m-n)")

    def test_binds_in_the_order_of_the_own_names(self):
        self.placed(
            "deed main\ncall c b 0 1 c\ngive 0\ndeed b z d\nset y d\nset aa 1\ncall a b 1 k 2\ngive bb",
            "main", 0,
            "deed main\nset z.1 1\nset d.1 c\nset a.1 0\nset aa.1 0\nset bb.1 0\nset k.1 0\nset y.1 0\nset y.1 d.1\n"
            "set aa.1 1\ncall a.1 b 1 k.1 2\nset c bb.1\ngive 0\n"
            "deed b z d\nset y d\nset aa 1\ncall a b 1 k 2\ngive bb")

    def test_a_deed_without_names_and_rows(self):
        self.placed("deed main\ncall x b 0\ngive x\ndeed b\ngive 4", "main", 0,
                    "deed main\nset x 4\ngive x\ndeed b\ngive 4")

    def test_a_param_that_stands_nowhere_is_bound(self):
        self.placed("deed main\ncall x b 0 7\ngive x\ndeed b p\ngive 4", "main", 0,
                    "deed main\nset p.1 7\nset x 4\ngive x\ndeed b p\ngive 4")

    def test_names_by_their_copies_in_each_place(self):
        self.placed(
            "deed main p\ncall x b 9 p\ngive x\n"
            "deed b p\nset q p\nsay q\ncall r b 3 (q-p)\nwhen q\nset s 1\nelse\nsay s\nend\nturn p\nsay r\nend\n"
            "give (r*p)",
            "main", 0,
            "deed main p\nset p.1 p\nset q.1 0\nset r.1 0\nset s.1 0\nset q.1 p.1\nsay q.1\ncall r.1 b 3 (q.1-p.1)\n"
            "when q.1\nset s.1 1\nelse\nsay s.1\nend\nturn p.1\nsay r.1\nend\nset x (r.1*p.1)\ngive x\n"
            "deed b p\nset q p\nsay q\ncall r b 3 (q-p)\nwhen q\nset s 1\nelse\nsay s\nend\nturn p\nsay r\nend\n"
            "give (r*p)")

    def test_within_rows_and_by_number(self):
        text = "deed main\n{0}when 1\n{1}turn 2\n{2}end\nelse\n{3}end\n{4}give x\ndeed b p\ngive p"
        calls = [f"call x b {9 - at} {at}\n" for at in range(5)]
        for at in range(5):
            wanted = list(calls)
            wanted[at] = f"set p.1 {at}\nset x p.1\n"
            self.placed(text.format(*calls), "main", at, text.format(*wanted))

    def test_a_deed_other_than_the_first(self):
        self.placed("deed a\ncall x b 0\ngive 0\ndeed b\ncall y c 1\ngive y\ndeed c\ngive n", "b", 0,
                    "deed a\ncall x b 0\ngive 0\ndeed b\nset n.1 0\nset y n.1\ngive y\ndeed c\ngive n")

    def test_other_deeds_stay_reached_or_not(self):
        self.placed("deed a\ncall x b 0\ngive 0\ndeed c\ncall y b 1\ngive 2\ndeed b\ngive 1", "a", 0,
                    "deed a\nset x 1\ngive 0\ndeed c\ncall y b 1\ngive 2\ndeed b\ngive 1")

    def test_a_deed_that_calls_itself(self):
        self.placed(
            "deed a n\nwhen n\ncall x a 0 (n-1)\nelse\nend\nsay x\ngive n", "a", 0,
            "deed a n\nwhen n\nset n.1 (n-1)\nset x.1 0\nwhen n.1\ncall x.1 a 0 (n.1-1)\nelse\nend\nsay x.1\n"
            "set x n.1\nelse\nend\nsay x\ngive n")

    def test_the_first_deed_called_by_another(self):
        self.placed("deed a n\ncall n b 0\ngive n\ndeed b\ncall m a 1 5\ngive m", "b", 0,
                    "deed a n\ncall n b 0\ngive n\ndeed b\nset n.1 5\ncall n.1 b 0\nset m n.1\ngive m")

    def test_into_a_body_that_has_numbers(self):
        book = read_book("deed a p\ncall x b 0 p\ncall y b 1 x\ngive y\ndeed b n\nset m n\ngive m")
        first = "set n.{0} p\nset m.{0} 0\nset m.{0} n.{0}\nset x m.{0}\n"
        second = "set n.{0} x\nset m.{0} 0\nset m.{0} n.{0}\nset y m.{0}\n"
        whole = "deed a p\n{0}{1}give y\ndeed b n\nset m n\ngive m"
        at_first = place_call(book, "a", 0)
        self.assertEqual(book_text(at_first), whole.format(first.format(1), "call y b 1 x\n"))
        self.assertEqual(book_text(place_call(at_first, "a", 0)), whole.format(first.format(1), second.format(2)))
        # The one that stands ahead has the lesser number, whichever gave way first.
        at_last = place_call(book, "a", 1)
        self.assertEqual(book_text(at_last), whole.format("call x b 0 p\n", second.format(1)))
        self.assertEqual(book_text(place_call(at_last, "a", 0)), whole.format(first.format(1), second.format(2)))

    def test_names_that_had_numbers_get_other_ones(self):
        book = (deed("a", "p", [setting("n.1", nam("p")), call(0, "b", [nam("n.1")]), ("say", nam("m.2"))], nam("n.1")),
                deed("b", "n", [setting("n.1", nam("n")), setting("k.2", nam("m.1")), setting("n.2", nam("k"))],
                     nam("k.2")))
        wanted = (deed("a", "p", [
            setting("n.1", nam("p")),
            setting("n.2", nam("n.1")), setting("k.2", num(0)),
            setting("n.3", nam("n.2")), setting("k.4", nam("m.3")), setting("n.4", nam("k.2")),
            setting("x", nam("k.4")), ("say", nam("m.5"))], nam("n.1")), book[1])
        self.assertEqual(place_call(book, "a", 0), wanted)

    def test_names_with_a_number_are_not_bound_anew(self):
        book = (deed("a", (), [call(0, "b")]), deed("b", (), [setting("n.1", nam("m.1"))], nam("k.7")))
        self.assertEqual(place_call(book, "a", 0)[0],
                         deed("a", (), [setting("n.1", nam("m.1")), setting("x", nam("k.2"))]))

    def test_numbers_of_the_calling_deed_are_kept_apart_from_the_copies(self):
        for number in [1, 2, 3, 5, 10 ** 30]:
            book = (deed("a", (), [call(0, "b", [nam(f"p.{number}")], f"p.{number}")], nam(f"q.{number + 1}")),
                    deed("b", "p", [setting(f"p.{number}", nam("p")), setting("q.1", nam("q.2"))], nam("p")))
            # By hand, with numbers far from one another: 100 and 200 are the calling deed's own.
            copies = {number: 400}
            copies.setdefault(1, 500)
            copies.setdefault(2, 600)
            rows = [setting("p.300", nam("p.100")), setting(f"p.{copies[number]}", nam("p.300")),
                    setting(f"q.{copies[1]}", nam(f"q.{copies[2]}")), setting("p.100", nam("p.300"))]
            self.assertEqual(place_call(book, "a", 0), tidy_book((deed("a", (), rows, nam("q.200")), book[1])))

    def test_marks_stay(self):
        book = read_book("deed a\ncall x b 5\ngive x\n"
                         "deed b\ncall y c 7\nturn 1\ncall y b 8\nend\ngive y\ndeed c\ngive 1")
        told = place_call(book, "a", 0)
        self.assertEqual([calls_of(one) for one in told], [[(7, "c"), (8, "b")], [(7, "c"), (8, "b")], []])
        again = place_call(told, "a", 1)
        self.assertEqual(calls_of(again[0]), [(7, "c"), (7, "c"), (8, "b")])

    def test_names_begin_anew_each_time_that_one_comes_by(self):
        text = "deed a\nturn 3\ncall x b 0 2\nsay x\nend\ngive 0\ndeed b p\nset n (n+p)\nset p 9\ngive n"
        book = read_book(text)
        self.assertEqual(run_book(book, [])[1], [2, 2, 2])
        self.assertEqual(run_book(place_call(book, "a", 0), [])[1:3], ([2, 2, 2], 0))

    def test_what_is_told_is_tidy_in_all_deeds(self):
        book = (deed("a", (), [call(0, "b")]), deed("b", (), [setting("n.7", nam("n.3"))], nam("k.7")),
                deed("c", (), [("say", nam("z.4"))]))
        told = place_call(book, "a", 0)
        self.assertTrue(is_tidy(told))
        self.assertEqual(told[1], deed("b", (), [setting("n.2", nam("n.1"))], nam("k.2")))
        self.assertEqual(told[2], deed("c", (), [("say", nam("z.1"))]))

    def test_deep_rows(self):
        book = (deed("a", (), [turned(24, call(0, "b"))]), deed("b", "", [SAY_ONE]))
        told = place_call(book, "a", 0)
        rows = rows_of(told[0])
        self.assertEqual(rows[23:], [SAY_ONE, setting("x", num(0))])

    def test_drawn_books(self):
        chance = random.Random(51)
        done = 0
        for _ in range(300):
            book = drawn_book(chance, back=0.4)
            for _ in range(4):
                places = [(one, at) for one in book for at in range(len(calls_of(one)))]
                if not places or book_size(book) > 300:
                    break
                one, at = chance.choice(places)
                called = [other for other in book if other[0] == calls_of(one)[at][1]][0]
                told = place_call(book, one[0], at)
                self.assertTrue(is_tidy(told))
                self.assertEqual(book_size(told), book_size(book) + len(own_names(called)) + len(rows_of(called)))
                self.assertEqual([other for other in told if other[0] != one[0]],
                                 [other for other in book if other[0] != one[0]])
                calls = calls_of(one)
                changed = [other for other in told if other[0] == one[0]][0]
                self.assertEqual(calls_of(changed), calls[:at] + calls_of(called) + calls[at + 1:])
                self.assertEqual(own_names(changed), own_names(one))
                book = told
                done += 1
        self.assertGreater(done, 300)


class Refused(unittest.TestCase):
    def refused(self, error, book, name, at):
        with self.assertRaises(error) as caught:
            place_call(book, name, at)
        self.assertIs(type(caught.exception), error)

    def test_no_deed(self):
        book = (deed("a", "p", [call(0, "a", [num(1)])]),)
        for name in ["b", "p", "aa", ""]:
            self.refused(NoDeed, book, name, 0)

    def test_no_call(self):
        book = (deed("a", (), [SAY_ONE, call(0, "b"), ("turn", num(1), (call(1, "b"),))]), deed("b"))
        for at in [2, 3, 100, 10 ** 5000]:
            self.refused(NoCall, book, "a", at)
        place_call(book, "a", 1)
        for at in [0, 1]:
            self.refused(NoCall, book, "b", at)

    def test_no_deed_goes_ahead_of_no_call(self):
        self.refused(NoDeed, (deed("a"),), "b", 0)

    def book_that_becomes(self, size):
        # Placed, the call makes room for 2 binds, 300 rows and the set: 302 more than it is now.
        rows = [SAY_ONE] * (size - 302 - 1 - 301 - 1) + [call(0, "b", [num(1)])]
        return (deed("a", (), rows), deed("b", "p", [setting("q", nam("p"))] + [SAY_ONE] * 299))

    def test_sizes_800_and_801(self):
        self.assertEqual(book_size(place_call(self.book_that_becomes(800), "a", 0)), 800)
        self.refused(TooBig, self.book_that_becomes(801), "a", 0)

    def test_the_whole_book_is_counted_reached_or_not(self):
        book = (deed("a", (), [call(0, "b")]), deed("b", (), [SAY_ONE]), deed("c", (), [SAY_ONE] * 794))
        self.assertEqual(book_size(book), 799)
        self.assertEqual(book_size(place_call(book, "a", 0)), 800)
        self.refused(TooBig, book[:2] + (deed("c", (), [SAY_ONE] * 795),), "a", 0)

    def test_a_call_of_the_own_deed_at_the_bound(self):
        book = (deed("a", (), [SAY_ONE] * 398 + [call(0, "a")], nam("x")),)
        self.assertEqual(book_size(place_call(book, "a", 0)), 800)
        self.refused(TooBig, (deed("a", (), [SAY_ONE] * 399 + [call(0, "a")], nam("x")),), "a", 0)

    def test_no_call_goes_ahead_of_too_big(self):
        self.refused(NoCall, self.book_that_becomes(801), "a", 1)
        self.refused(NoDeed, self.book_that_becomes(801), "c", 0)


class Tidy(unittest.TestCase):
    def test_plain_books_stay(self):
        chance = random.Random(52)
        for _ in range(50):
            book = drawn_book(chance)
            self.assertEqual(tidy_book(book), book)

    def test_the_order_of_numbers(self):
        rows = [
            setting("a.9", ("plus", nam("b.8"), ("less", nam("c.7"), nam("a")))),
            call(0, "d", [nam("a.6"), ("plus", num(1), nam("a.5"))], "a.4"),
            ("when", nam("a.30"), (("say", nam("a.20")),), (("turn", nam("a.21"), (setting("a.22", num(1)),)),)),
            ("say", nam("a.19")),
        ]
        wanted = [
            setting("a.3", ("plus", nam("b.1"), ("less", nam("c.2"), nam("a")))),
            call(0, "d", [nam("a.4"), ("plus", num(1), nam("a.5"))], "a.6"),
            ("when", nam("a.7"), (("say", nam("a.8")),), (("turn", nam("a.9"), (setting("a.10", num(1)),)),)),
            ("say", nam("a.11")),
        ]
        self.assertEqual(tidy_book((deed("d", "pq", rows, ("over", nam("a.3"), nam("a.2"))),)),
                         (deed("d", "pq", wanted, ("over", nam("a.12"), nam("a.13"))),))

    def test_one_number_stays_one(self):
        rows = [setting("a.5", nam("b.5")), setting("b.2", nam("a.2")), ("say", nam("c.5"))]
        wanted = [setting("a.1", nam("b.1")), setting("b.2", nam("a.2")), ("say", nam("c.1"))]
        self.assertEqual(tidy_book((deed("d", (), rows, nam("z.2")),)), (deed("d", (), wanted, nam("z.2")),))

    def test_numbers_that_change_places(self):
        self.assertEqual(tidy_book((deed("d", (), [setting("a.1", nam("a.2"))], ("plus", nam("a.3"), nam("a.1"))),)),
                         (deed("d", (), [setting("a.2", nam("a.1"))], ("plus", nam("a.3"), nam("a.2"))),))

    def test_deed_by_deed(self):
        book = (deed("a", (), [("say", nam("n.4"))]), deed("b", (), [("say", nam("n.9")), ("say", nam("n.4"))]))
        self.assertEqual(tidy_book(book), (deed("a", (), [("say", nam("n.1"))]),
                                           deed("b", (), [("say", nam("n.1")), ("say", nam("n.2"))])))

    def test_great_numbers(self):
        name = "abcd." + "9" * 6000
        book = (deed("a", (), [("say", nam(name)), ("say", nam("abcd.10")), ("say", nam("abcd.1"))]),)
        wanted = (deed("a", (), [("say", nam("abcd.1")), ("say", nam("abcd.2")), ("say", nam("abcd.3"))]),)
        self.assertEqual(tidy_book(book), wanted)

    def test_great_and_deep_books(self):
        rows = [turned(24, ("say", nam(f"n.{1000 - number}"))) for number in range(33)]
        wanted = [turned(24, ("say", nam(f"n.{number + 1}"))) for number in range(33)]
        self.assertEqual(tidy_book((deed("a", (), rows),)), (deed("a", (), wanted),))

    def test_twice_is_the_same(self):
        chance = random.Random(53)
        for _ in range(100):
            book = renumbered(chance, numbered_book(chance))
            tidy = tidy_book(book)
            self.assertTrue(is_tidy(tidy))
            self.assertEqual(tidy_book(tidy), tidy)


def numbered_book(chance):
    book = drawn_book(chance, back=0.4)
    for _ in range(5):
        places = [(one[0], at) for one in book for at in range(len(calls_of(one)))]
        if places and book_size(book) < 300:
            book = place_call(book, *chance.choice(places))
    return book


def renumbered(chance, book):
    """The book with other numbers, unlike for unlike ones, in each deed."""
    return tuple(with_numbers(one, chance.sample(range(1, 400), 200)) for one in book)


def with_numbers(part, numbers):
    # Only names with numbers have a point in them.
    if isinstance(part, str) and "." in part:
        letters, number = part.split(".")
        return f"{letters}.{numbers[int(number)]}"
    if isinstance(part, tuple):
        return tuple(with_numbers(inner, numbers) for inner in part)
    return part


class Alike(unittest.TestCase):
    def one(self, *rows, give=("number", 0)):
        return (deed("a", (), rows, give),)

    def unlike(self, one, other):
        self.assertIs(is_alike(one, other), False)
        self.assertIs(is_alike(other, one), False)

    def alike(self, one, other):
        self.assertIs(is_alike(one, other), True)
        self.assertIs(is_alike(other, one), True)

    def test_by_other_numbers(self):
        chance = random.Random(54)
        changed = 0
        for _ in range(100):
            book = numbered_book(chance)
            other = renumbered(chance, book)
            changed += other != book
            self.alike(book, other)
        self.assertGreater(changed, 40)

    def test_numbers_that_fall_together_or_apart(self):
        two = self.one(setting("n.1", num(1)), setting("m.2", num(1)))
        self.alike(two, self.one(setting("n.2", num(1)), setting("m.1", num(1))))
        self.unlike(two, self.one(setting("n.1", num(1)), setting("m.1", num(1))))
        self.unlike(two, self.one(setting("n.1", num(1)), setting("m", num(1))))

    def test_a_plain_name_is_unlike_one_with_a_number(self):
        self.unlike(self.one(("say", nam("n"))), self.one(("say", nam("n.1"))))

    def test_letters_count(self):
        self.unlike(self.one(("say", nam("n.1"))), self.one(("say", nam("m.1"))))

    def test_in_each_part(self):
        book = (deed("a", "p", [setting("x", num(1)), call(0, "b", [nam("n.3")])], nam("k.3")), deed("b", "q"))
        self.alike(book, (deed("a", "p", [setting("x", num(1)), call(0, "b", [nam("n.8")])], nam("k.8")),
                          deed("b", "q")))
        for other in [
            book[:1],
            book[::-1],
            (book[0], deed("b", "r")),
            (book[0], deed("c", "q")),
            (deed("a", "p", [call(0, "b", [nam("n.3")]), setting("x", num(1))], nam("k.3")), book[1]),
            (deed("a", "p", [setting("x", num(1)), call(1, "b", [nam("n.3")])], nam("k.3")), book[1]),
            (deed("a", "p", [setting("x", num(1)), call(0, "a", [nam("n.3")])], nam("k.3")), book[1]),
            (deed("a", "p", [setting("x", num(2)), call(0, "b", [nam("n.3")])], nam("k.3")), book[1]),
            (deed("a", "p", [setting("x", num(1)), call(0, "b", [nam("n.3")], "y")], nam("k.3")), book[1]),
            (deed("a", "p", [setting("x", num(1)), call(0, "b", [nam("n.3")])], nam("k.4")), book[1]),
        ]:
            self.unlike(book, other)

    def test_calls_that_no_book_has(self):
        rows = [call(3, "nought", [nam("n.4")]), call(3, "a", [num(1), num(2)]), call(3, "b")]
        book = (deed("a", "p", rows), deed("b", "q"))
        other = (deed("a", "p", [call(3, "nought", [nam("n.2")])] + rows[1:]), deed("b", "q"))
        self.alike(book, other)
        for place, row in enumerate([call(3, "nobody", [nam("n.4")]), call(3, "a", [num(1)]), call(3, "b", [num(0)])]):
            changed = list(rows)
            changed[place] = row
            self.unlike(book, (deed("a", "p", changed), deed("b", "q")))

    def test_a_book_and_itself(self):
        chance = random.Random(55)
        for _ in range(20):
            book = numbered_book(chance)
            self.alike(book, book)


class Told(unittest.TestCase):
    def test_what_is_handed_in_stays(self):
        book = (deed("a", "p", [call(0, "b", [nam("p.7")]), turned(3, call(1, "b", [num(1)]))], nam("n.3")),
                deed("b", "n", [setting("m.4", nam("n"))]))
        before = copy.deepcopy(book)
        for asked in [lambda: place_call(book, "a", 1), lambda: tidy_book(book), lambda: is_alike(book, book)]:
            self.assertEqual(asked(), asked())
            self.assertEqual(book, before)

    def test_kinds(self):
        book = read_book("deed a p\nwhen 1\ncall x a 0 p\nelse\nend\nturn 1\nend\ngive (p+x)")
        for told in [place_call(book, "a", 0), tidy_book(book)]:
            self.assert_tuples(told)

    def assert_tuples(self, part):
        if not isinstance(part, (str, int)):
            self.assertIs(type(part), tuple)
            for inner in part:
                self.assert_tuples(inner)


if __name__ == "__main__":
    unittest.main()

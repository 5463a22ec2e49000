import unittest

from callfold.errors import Broken, FoldError
from callfold.worths import depth_of, names_in, worth_of
from shapes import nam, nested, num

MOST = 999999
WORDS = ["plus", "less", "times", "over", "rest", "under", "same"]
BREAKS = ("over", num(1), num(0))

# word, left, right, worth
REGULAR = [
    ("plus", 0, 0, 0),
    ("plus", 2, 3, 5),
    ("plus", MOST, 0, MOST),
    ("plus", MOST, 1, 0),
    ("plus", 1, MOST, 0),
    ("plus", MOST, MOST, 999998),
    ("less", 0, 0, 0),
    ("less", 5, 3, 2),
    ("less", 3, 5, 999998),
    ("less", 0, 1, MOST),
    ("less", 0, MOST, 1),
    ("less", MOST, MOST, 0),
    ("times", 0, MOST, 0),
    ("times", 6, 7, 42),
    ("times", MOST, 1, MOST),
    ("times", 1000, 1000, 0),
    ("times", MOST, 2, 999998),
    ("times", MOST, MOST, 1),
    ("over", 0, 1, 0),
    ("over", 7, 2, 3),
    ("over", 6, 2, 3),
    ("over", 2, 7, 0),
    ("over", MOST, 1, MOST),
    ("over", MOST, MOST, 1),
    ("over", 999998, MOST, 0),
    ("rest", 0, 1, 0),
    ("rest", 7, 2, 1),
    ("rest", 6, 2, 0),
    ("rest", 2, 7, 2),
    ("rest", MOST, 1, 0),
    ("rest", MOST, MOST, 0),
    ("rest", 999998, MOST, 999998),
    ("under", 0, 0, 0),
    ("under", 0, 1, 1),
    ("under", 1, 0, 0),
    ("under", 2, 3, 1),
    ("under", MOST, MOST, 0),
    ("under", 999998, MOST, 1),
    ("under", MOST, 0, 0),
    ("same", 0, 0, 1),
    ("same", 0, 1, 0),
    ("same", 1, 0, 0),
    ("same", MOST, MOST, 1),
    ("same", MOST, 999998, 0),
]


class Worths(unittest.TestCase):
    def test_leaves(self):
        self.assertEqual(worth_of(num(0), {}), 0)
        self.assertEqual(worth_of(num(MOST), {}), MOST)
        self.assertEqual(worth_of(nam("ab"), {"ab": 17}), 17)
        self.assertEqual(worth_of(nam("ab.2"), {"ab": 17, "ab.2": 4}), 4)

    def test_a_name_that_is_lacking_is_worth_nought(self):
        self.assertEqual(worth_of(nam("b"), {"a": 3}), 0)
        self.assertEqual(worth_of(("plus", nam("a.1"), nam("a")), {"a": 3}), 3)
        with self.assertRaises(Broken):
            worth_of(("rest", num(5), nam("b")), {"a": 3})

    def test_each_word(self):
        for word, left, right, worth in REGULAR:
            with self.subTest(f"{left} {word} {right}"):
                found = worth_of((word, num(left), num(right)), {})
                self.assertEqual(found, worth)
                self.assertIs(type(found), int)

    def test_each_word_by_names(self):
        for word, left, right, worth in REGULAR:
            with self.subTest(f"{left} {word} {right}"):
                self.assertEqual(worth_of((word, nam("p"), nam("q")), {"p": left, "q": right}), worth)

    def test_over_and_rest_by_nought_break(self):
        for word in ["over", "rest"]:
            for left in [0, 1, MOST]:
                with self.subTest(f"{left} {word} 0"):
                    with self.assertRaises(Broken):
                        worth_of((word, num(left), num(0)), {})

    def test_the_other_words_take_nought(self):
        for word in ["plus", "less", "times", "under", "same"]:
            worth_of((word, num(1), num(0)), {})

    def test_what_breaks_within_breaks_the_whole(self):
        for word in WORDS:
            for whole in [(word, BREAKS, num(1)), (word, num(1), BREAKS), (word, BREAKS, BREAKS),
                          (word, num(0), ("plus", num(1), BREAKS))]:
                with self.subTest(str(whole)):
                    with self.assertRaises(Broken):
                        worth_of(whole, {})

    def test_broken_is_a_refusal(self):
        with self.assertRaises(FoldError):
            worth_of(BREAKS, {})

    def test_parts_are_reckoned_as_they_stand(self):
        whole = ("less", ("times", nam("a"), num(3)), ("over", num(9), ("plus", nam("b"), num(1))))
        self.assertEqual(worth_of(whole, {"a": 5, "b": 1}), 11)

    def test_parts_are_brought_back_to_values_one_by_one(self):
        whole = ("over", ("plus", num(MOST), num(3)), num(2))
        self.assertEqual(worth_of(whole, {}), 1)

    def test_the_dict_stays(self):
        held = {"a": 1, "b": 2}
        worth_of(("plus", nam("a"), ("times", nam("c"), nam("b"))), held)
        self.assertEqual(held, {"a": 1, "b": 2})
        with self.assertRaises(Broken):
            worth_of(("over", nam("a"), nam("c")), held)
        self.assertEqual(list(held.items()), [("a", 1), ("b", 2)])

    def test_asked_again_the_same(self):
        whole = ("plus", nam("a"), nam("b"))
        self.assertEqual([worth_of(whole, {"a": 1}) for _ in range(3)], [1, 1, 1])


class Names(unittest.TestCase):
    def test_leaves(self):
        self.assertEqual(names_in(num(4)), [])
        self.assertEqual(names_in(nam("abcd")), ["abcd"])
        self.assertEqual(names_in(nam("a.12")), ["a.12"])

    def test_from_left_to_right_as_often_as_they_stand(self):
        whole = ("plus", ("same", nam("b"), nam("a.1")), ("over", nam("b"), ("less", num(1), nam("a"))))
        self.assertEqual(names_in(whole), ["b", "a.1", "b", "a"])

    def test_in_each_word(self):
        for word in WORDS:
            self.assertEqual(names_in((word, nam("y"), nam("x"))), ["y", "x"])

    def test_each_list_is_a_new_one(self):
        for whole in [num(1), nam("a"), ("plus", nam("a"), num(1))]:
            told = names_in(whole)
            again = names_in(whole)
            self.assertIs(type(told), list)
            self.assertIsNot(told, again)
            told.append("z")
            self.assertEqual(names_in(whole), again)


class Depths(unittest.TestCase):
    def test_one_to_five(self):
        for depth in range(1, 6):
            self.assertEqual(depth_of(nested(depth)), depth)
            self.assertEqual(depth_of(nested(depth, nam("a"))), depth)

    def test_somewhat_beyond(self):
        self.assertEqual(depth_of(nested(7)), 7)
        self.assertEqual(worth_of(nested(7), {}), 7)

    def test_the_deeper_side_counts(self):
        for word in WORDS:
            self.assertEqual(depth_of((word, nested(3), nested(2))), 4)
            self.assertEqual(depth_of((word, nested(2), nested(3))), 4)
            self.assertEqual(depth_of((word, nested(3), nested(3))), 4)


if __name__ == "__main__":
    unittest.main()

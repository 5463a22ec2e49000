import copy
import itertools
import random
import unittest

from callfold.books import made_book
from callfold.casejudge import cases_judged
from callfold.cases import best_marks, least_size
from callfold.folding import folded_size
from callfold.gains import gain_of, mark_gain
from callfold.rings import is_ring, rank_deeds
from callfold.texts import read_book
from shapes import all_marks, call, deed, drawn_book, drawn_counts, num

BIG = ("big",)
SMALL = ("small",)


def part(mark, within, without):
    return ("part", mark, within, without)


def ring(*marks):
    return ("ring", list(marks))


def is_tree_as_told(paper, tree, within=(), without=()):
    """Point 20, word by word; paper is (book, counts, price, size, gain)."""
    book, counts, price, size, gain = paper
    within = sorted(within)
    without = sorted(without)
    others = [mark for mark in all_marks(book) if mark not in within and mark not in without]
    if tree[0] == "ring":
        return is_ring(book, within, tree[1])
    if tree[0] == "big":
        return rank_deeds(book, within)[0] == "ranks" and least_size(book, within, without) > size
    if tree[0] == "small":
        above = sum(max(0, mark_gain(book, counts, price, mark)) for mark in others)
        return gain is not None and gain >= gain_of(book, counts, price, within) + above
    mark = tree[1]
    return mark in others and is_tree_as_told(paper, tree[2], within + [mark], without) \
        and is_tree_as_told(paper, tree[3], within, without + [mark])


def drawn_tree(chance, book, within, without, depth):
    """A tree of which each leaf has a fair chance to be right."""
    others = [mark for mark in all_marks(book) if mark not in within + without]
    if others and depth and chance.random() < 0.7:
        mark = chance.choice(others)
        return part(mark, drawn_tree(chance, book, within + [mark], without, depth - 1),
                    drawn_tree(chance, book, within, without + [mark], depth - 1))
    told = rank_deeds(book, sorted(within))
    if told[0] == "ring" and chance.random() < 0.8:
        return told
    return chance.choice([BIG, SMALL])


def changed_tree(chance, book, tree):
    """One thing of it is another one now."""
    if tree[0] == "part" and chance.random() < 0.8:
        place = chance.choice([1, 2, 3])
        if place == 1:
            return part(chance.choice(all_marks(book) + [100, -1]), tree[2], tree[3])
        return tree[:place] + (changed_tree(chance, book, tree[place]),) + tree[place + 1:]
    if tree[0] == "ring" and chance.random() < 0.5:
        marks = list(tree[1])
        marks[chance.randrange(len(marks))] = chance.choice(all_marks(book) + [100])
        return ("ring", marks)
    return chance.choice([BIG, SMALL, ring(chance.choice(all_marks(book) or [0]))])


class Judged(unittest.TestCase):
    # Sizes: a 3, b 3, c 2; own names: of a and of b one, of c none. 1 and 2 close a ring, so does 3.
    book = read_book("deed a\ncall x b 1\ncall x c 4\ngive x\n"
                     "deed b\ncall y a 2\ncall y b 3\ngive y\n"
                     "deed c\nsay 1\ngive 1")
    counts = {1: 10, 2: 20, 3: 30, 4: 5}

    def judged(self, wanted, size, gain, tree, price=3):
        self.assertIs(cases_judged(self.book, self.counts, price, size, gain, tree), wanted)
        self.assertIs(is_tree_as_told((self.book, self.counts, price, size, gain), tree), wanted)


class Rings(Judged):
    # Gains at 3: 1 has 20, 2 has 40, 3 has 60, 4 has 15; without rings 40 + 15 are the most.

    def test_right(self):
        self.judged(True, 50, 75, part(3, ring(3), SMALL))
        self.judged(True, 50, 60, part(3, ring(3), part(1, part(2, ring(1, 2), SMALL), SMALL)))
        self.judged(True, 50, 60, part(3, ring(3), part(1, part(2, ring(2, 1), SMALL), SMALL)))
        self.judged(True, 50, 55, part(3, ring(3), part(1, part(2, ring(2, 1), SMALL), SMALL)))

    def test_a_ring_that_is_none(self):
        self.judged(False, 50, 75, part(3, ring(), SMALL))
        self.judged(False, 50, 75, part(3, ring(3, 3), SMALL))
        self.judged(False, 50, 75, part(4, ring(4), part(3, ring(3), SMALL)))
        for marks in [[1], [2], [1, 1], [1, 2, 1, 2], [1, 2, 1], []]:
            self.judged(False, 50, 55, part(3, ring(3), part(1, part(2, ring(*marks), SMALL), SMALL)))

    def test_a_mark_that_is_not_in(self):
        self.judged(False, 50, 75, ring(3))
        self.judged(False, 50, 75, part(1, ring(3), ring(3)))
        self.judged(False, 50, 75, part(3, ring(3), ring(3)))
        self.judged(False, 50, 55, part(3, ring(3), part(1, ring(1, 2), SMALL)))
        self.judged(False, 50, 55, part(3, ring(3), part(1, part(2, SMALL, ring(1, 2)), SMALL)))
        for mark in [0, 5, 100, -1, -3, 10 ** 5000]:
            self.judged(False, 50, 75, part(3, ring(mark), SMALL))
            self.judged(False, 50, 75, part(3, ring(3, mark), SMALL))

    def test_a_case_whose_marks_in_close_a_ring_may_be_parted_too(self):
        self.judged(True, 50, 75, part(3, part(4, ring(3), ring(3)), SMALL))
        self.judged(True, 50, 75, part(3, part(4, ring(3), part(1, part(2, ring(1, 2), ring(3)), ring(3))), SMALL))
        self.judged(False, 50, 75, part(3, part(4, ring(3), BIG), SMALL))

    def test_a_ringed_case_may_be_small(self):
        self.judged(True, 50, 135, part(3, SMALL, SMALL))
        self.judged(False, 50, 134, part(3, SMALL, SMALL))
        self.judged(True, 50, 134, part(3, ring(3), SMALL))


class Big(Judged):
    def test_at_the_size_and_one_above(self):
        self.judged(True, 2, None, BIG)
        self.judged(False, 3, None, BIG)
        # 1 in: 3 of a, one bind, 2 of b; 1 out: a and b stand.
        self.judged(True, 5, None, part(1, BIG, BIG))
        self.judged(False, 6, None, part(1, BIG, BIG))
        # 4 in: 3 of a and 1 of c; 4 out: a and c stand.
        self.judged(True, 3, None, part(4, BIG, BIG))
        self.judged(False, 4, None, part(4, BIG, BIG))

    def test_one_of_two(self):
        # 4 in is 4, 4 out is 5.
        self.judged(False, 4, None, part(4, BIG, BIG))
        self.judged(False, 4, 500, part(4, BIG, SMALL))
        self.judged(True, 4, 500, part(4, SMALL, BIG))

    def test_with_a_gain_too(self):
        for gain in [-1000, -1, 0, 7, 10 ** 30]:
            self.judged(True, 2, gain, BIG)
            self.judged(False, 3, gain, BIG)

    def test_where_those_in_close_a_ring(self):
        self.judged(False, 0, None, part(3, BIG, BIG))
        self.judged(True, 0, None, part(3, ring(3), BIG))
        self.judged(False, 0, None, part(1, part(2, BIG, BIG), BIG))
        self.judged(True, 0, None, part(1, part(2, ring(1, 2), BIG), BIG))

    def test_a_deed_called_by_open_marks_alone_does_not_count(self):
        # 3 out stands in b, which stands only where 1 is out, too.
        self.judged(False, 3, None, part(3, ring(3), BIG))
        self.judged(False, 3, None, part(3, ring(3), part(1, BIG, part(4, BIG, SMALL))))
        self.judged(True, 3, None, part(3, ring(3), part(1, BIG, part(4, BIG, BIG))))


class Small(Judged):
    def test_at_the_gain_and_one_below(self):
        self.judged(True, 50, 135, SMALL)
        self.judged(False, 50, 134, SMALL)
        self.judged(True, 50, 10 ** 30, SMALL)
        self.judged(False, 50, 0, SMALL)
        self.judged(False, 50, -1, SMALL)

    def test_none(self):
        self.judged(False, 50, None, SMALL)
        self.judged(False, 0, None, part(3, SMALL, BIG))
        self.judged(False, 0, None, part(3, ring(3), SMALL))
        self.assertIs(cases_judged(read_book("deed a\ngive 0"), {}, 3, 50, None, SMALL), False)

    def test_of_marks_in_out_and_open(self):
        self.judged(True, 50, 135, part(1, SMALL, SMALL))
        self.judged(False, 50, 134, part(1, SMALL, SMALL))
        # With 3 out 75 are left, whatever the size.
        self.judged(True, 0, 75, part(3, ring(3), SMALL))
        self.judged(False, 0, 74, part(3, ring(3), SMALL))

    def test_gains_below_0(self):
        # Own names cost more than a price of 0: 1 has -10, 2 has -20, 3 has -30, 4 has 0.
        self.judged(True, 50, 0, SMALL, price=0)
        self.judged(False, 50, -1, SMALL, price=0)
        self.judged(False, 50, -1, part(1, SMALL, SMALL), price=0)
        # Those in count below 0, too.
        self.judged(True, 5, -10, part(1, SMALL, BIG), price=0)
        self.judged(False, 5, -11, part(1, SMALL, BIG), price=0)

    def test_no_calls(self):
        book = read_book("deed a\nsay 1\ngive 0")
        for gain, wanted in [(1, True), (0, True), (-1, False)]:
            self.assertIs(cases_judged(book, {}, 3, 50, gain, SMALL), wanted)


class Parts(Judged):
    def test_a_mark_that_is_in(self):
        self.judged(True, 2, None, part(1, BIG, BIG))
        self.judged(False, 2, None, part(1, part(1, BIG, BIG), BIG))
        self.judged(False, 2, None, part(1, part(4, part(1, BIG, BIG), BIG), BIG))

    def test_a_mark_that_is_out(self):
        self.judged(False, 2, None, part(1, BIG, part(1, BIG, BIG)))
        self.judged(False, 2, None, part(1, BIG, part(4, BIG, part(1, BIG, BIG))))

    def test_one_mark_on_both_sides(self):
        self.judged(True, 2, None, part(1, part(4, BIG, BIG), part(4, BIG, BIG)))

    def test_no_mark_of_the_book(self):
        for mark in [0, 5, 99, 100, -1, -4, 10 ** 5000]:
            self.judged(False, 2, None, part(mark, BIG, BIG))
            self.judged(False, 50, 1000, part(mark, SMALL, SMALL))
            self.judged(False, 50, 1000, part(1, SMALL, part(mark, SMALL, SMALL)))
            self.judged(False, 50, 1000, part(1, part(mark, SMALL, SMALL), SMALL))

    def test_one_tree_is_wrong(self):
        self.judged(True, 50, 75, part(3, ring(3), SMALL))
        self.judged(False, 50, 75, part(3, ring(1), SMALL))
        self.judged(False, 50, 75, part(3, ring(3), BIG))
        self.judged(False, 50, 75, part(3, SMALL, ring(3)))
        self.judged(False, 50, 75, part(3, SMALL, SMALL))

    def test_a_leaf_deep_down_is_wrong(self):
        def grown(marks, wrong, path=()):
            if not marks:
                return SMALL if path == wrong else BIG
            return part(marks[0], grown(marks[1:], wrong, path + (0,)), grown(marks[1:], wrong, path + (1,)))
        book = made_book([deed("a", (), [call(mark, "b") for mark in range(4)]), deed("b")])
        counts = {mark: 1 for mark in range(4)}
        self.assertIs(cases_judged(book, counts, 3, 4, None, grown([2, 0, 3, 1], None)), True)
        for wrong in itertools.product([0, 1], repeat=4):
            self.assertIs(cases_judged(book, counts, 3, 4, None, grown([2, 0, 3, 1], wrong)), False)

    def test_what_is_no_tree_by_its_form(self):
        for tree in [(), ("bigger",), ("part",), ("part", 1), ("part", 1, BIG), ("part", 1, BIG, BIG, BIG), ("ring",),
                     ("big", 1), ("small", 1), None, part(1, (), BIG), part(1, BIG, None), ("ring", [1], [1])]:
            self.assertIs(cases_judged(self.book, self.counts, 3, 2, 1000, tree), False, tree)


class Whoever(unittest.TestCase):
    def test_trees_made_by_hand(self):
        # The told tree parts by some mark first; right ones part by any.
        book = made_book([deed("a", (), [call(mark, "b") for mark in range(3)]), deed("b", (), [("say", num(1))] * 2)])
        counts = {0: 1, 1: 2, 2: 3}
        size = folded_size(book, [2])
        told = best_marks(book, counts, 4, size)
        self.assertEqual(told[:3], ("best", 12, [2]))
        two_in = folded_size(book, [0, 1])
        self.assertGreater(two_in, size)
        right = 0
        for order in itertools.permutations(range(3)):
            def grown(marks, within, without):
                paper = (book, counts, 4, size, 12)
                for leaf in (BIG, SMALL):
                    if is_tree_as_told(paper, leaf, within, without):
                        return leaf
                return part(marks[0], grown(marks[1:], within + [marks[0]], without),
                            grown(marks[1:], within, without + [marks[0]]))
            tree = grown(order, [], [])
            right += tree != told[3]
            self.assertIs(cases_judged(book, counts, 4, size, 12, tree), True)
            self.assertIs(cases_judged(book, counts, 4, size, 11, tree), False)
            self.assertIs(cases_judged(book, counts, 4, size, None, tree), False)
        self.assertGreater(right, 3)

    def test_a_book_of_ten_calls(self):
        book = made_book([deed("a", (), [call(mark, "b") for mark in range(9)] + [call(9, "a")]), deed("b")])
        counts = {mark: 1 for mark in range(10)}
        self.assertIs(cases_judged(book, counts, 5, 1000, 45, part(9, ring(9), SMALL)), True)
        self.assertIs(cases_judged(book, counts, 5, 1000, 44, part(9, ring(9), SMALL)), False)
        self.assertIs(cases_judged(book, counts, 5, 10, None, BIG), True)
        self.assertIs(cases_judged(book, counts, 5, 11, None, BIG), False)
        chain = SMALL
        for mark in range(9):
            chain = part(mark, chain, SMALL)
        self.assertIs(cases_judged(book, counts, 5, 1000, 49, chain), True)
        self.assertIs(cases_judged(book, counts, 5, 1000, 48, chain), False)

    def test_trees_of_many_cases(self):
        book = made_book([deed("a", (), [call(mark, "b") for mark in range(8)]), deed("b", (), [("say", num(1))] * 3)])
        counts = {mark: 1 for mark in range(8)}
        told = best_marks(book, counts, 5, 25)
        self.assertIs(cases_judged(book, counts, 5, 25, told[1], told[3]), True)

    def test_a_deep_tree_of_a_mark_again_and_again(self):
        book = read_book("deed a\ncall x b 1\ngive x\ndeed b\ngive 1")
        tree = BIG
        for _ in range(35):
            tree = part(1, tree, BIG)
        self.assertIs(cases_judged(book, {1: 1}, 5, 0, None, tree), False)

    def test_drawn_trees(self):
        chance = random.Random(203)
        seen = {True: 0, False: 0}
        for _ in range(2500):
            book = drawn_book(chance, most_deeds=4, most_calls=5, back=0.3)
            paper = self.drawn_paper(chance, book)
            tree = drawn_tree(chance, book, [], [], 3)
            told = cases_judged(*paper, tree)
            self.assertIs(told, is_tree_as_told(paper, tree))
            seen[told] += tree[0] == "part"
        self.assertGreater(min(seen.values()), 100)

    def drawn_paper(self, chance, book):
        counts = drawn_counts(chance, book)
        price = chance.randint(0, 6)
        size = max(0, folded_size(book, []) + chance.randint(-6, 6))
        above = sum(max(0, mark_gain(book, counts, price, mark)) for mark in counts)
        return book, counts, price, size, chance.choice([None, 0, above, above - 1, above // 2, -3])

    def test_told_trees_with_one_thing_changed(self):
        chance = random.Random(204)
        seen = {True: 0, False: 0}
        for _ in range(400):
            book = drawn_book(chance, most_deeds=4, most_calls=6, back=0.3)
            counts = drawn_counts(chance, book)
            size = max(0, folded_size(book, []) + chance.randint(-6, 6))
            told = best_marks(book, counts, 4, size)
            gain = told[1] if told[0] == "best" else None
            for _ in range(5):
                tree = changed_tree(chance, book, told[-1])
                paper = (book, counts, 4, size, gain)
                judged = cases_judged(*paper, tree)
                self.assertIs(judged, is_tree_as_told(paper, tree))
                seen[judged] += tree != told[-1]
        self.assertGreater(seen[False], 500)

    def test_no_tree_shows_less_than_the_most(self):
        chance = random.Random(205)
        shown = 0
        for _ in range(3000):
            book = drawn_book(chance, most_deeds=3, most_calls=3, back=0.3)
            paper = self.drawn_paper(chance, book)
            if cases_judged(*paper, drawn_tree(chance, book, [], [], 3)):
                told = best_marks(*paper[:4])
                shown += 1
                if paper[4] is None:
                    self.assertEqual(told[0], "none")
                elif told[0] == "best":
                    self.assertLessEqual(told[1], paper[4])
        self.assertGreater(shown, 300)


class Told(unittest.TestCase):
    def test_what_is_handed_in_stays(self):
        book = Judged.book
        counts = dict(Judged.counts)
        tree = part(3, ring(3), part(1, part(2, ring(2, 1), SMALL), SMALL))
        before = copy.deepcopy((book, counts, tree))
        self.assertEqual([cases_judged(book, counts, 3, 50, 60, tree) for _ in range(2)], [True, True])
        self.assertEqual((book, counts, tree), before)


if __name__ == "__main__":
    unittest.main()

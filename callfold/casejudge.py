"""The judge of trees of cases: whether one shows that no marks that fit a size gain more."""

from callfold.cases import most_gain, open_among, ranks_or_ring_among
from callfold.folding import Sheet, standing_size
from callfold.gains import gains_by_mark
from callfold.rings import is_ring


def cases_judged(book, counts, price, size, gain, tree):
    judge = Judge(book, gains_by_mark(book, counts, price), size, gain)
    return judge.is_tree_of(tree, [], [])


class Judge:
    def __init__(self, book, gains, size, gain):
        self.book = book
        self.sheet = Sheet(book)
        self.gains = gains
        self.size = size
        self.gain = gain

    def is_tree_of(self, tree, within, without):
        form = (tree[0], len(tree)) if isinstance(tree, tuple) and tree else None
        if form == ("ring", 2):
            return is_ring(self.book, sorted(within), tree[1])
        if form == ("big", 1):
            return self.is_big(within, without)
        if form == ("small", 1):
            return self.gain is not None and self.gain >= most_gain(self.gains, within, without)
        return form == ("part", 4) and self.is_parted(tree, within, without)

    def is_big(self, within, without):
        told = ranks_or_ring_among(self.sheet, within)
        return told[0] == "ranks" and standing_size(self.sheet, within, without, told[1]) > self.size

    def is_parted(self, tree, within, without):
        # Each part takes an open mark away: however deep a tree is, no deeper is gone than there are marks.
        mark = tree[1]
        if mark not in open_among(self.gains, within, without):
            return False
        in_judged = self.is_tree_of(tree[2], within + [mark], without)
        return in_judged and self.is_tree_of(tree[3], within, without + [mark])

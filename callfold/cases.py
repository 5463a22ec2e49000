"""The most gain within a size, with a tree of cases that shows it.

In a case some marks are in, some are out, and the others are open.
"""

from callfold.errors import TooMany
from callfold.folding import Sheet, ranks_or_refusal, size_by_ranks, standing_size
from callfold.gains import gains_by_mark
from callfold.rings import links_among, links_by, ranks_or_ring

MOST_CALLS_TRIED = 8


def least_size(book, within, without):
    # Both lists are judged ahead of the ring that those within may close.
    links_by(book, without)
    ranks = ranks_or_refusal(book, within)
    return standing_size(Sheet(book), within, without, ranks)


def best_marks(book, counts, price, size):
    sheet = Sheet(book)
    if len(sheet.links) > MOST_CALLS_TRIED:
        raise TooMany("more calls than are tried")
    gains = gains_by_mark(book, counts, price)
    best = best_fit(sheet, gains, size)
    if best is None:
        return ("none", Grower(sheet, gains, size, None).tree_for([], []))
    return ("best", best[0], best[1], Grower(sheet, gains, size, best[0]).tree_for([], []))


def best_fit(sheet, gains, size):
    # Told is (gain, marks), or None where no marks fit.
    best = None
    for marks in all_lists(list(gains)):
        gain = sum([gains[mark] for mark in marks])
        if (best is None or gain > best[0]) and is_fit(sheet, marks, size):
            best = (gain, marks)
    return best


def is_fit(sheet, marks, size):
    told = ranks_or_ring_among(sheet, marks)
    return told[0] == "ranks" and size_by_ranks(sheet, marks, told[1]) <= size


def ranks_or_ring_among(sheet, marks):
    return ranks_or_ring(sheet.names, links_among(sheet.links, marks))


def most_gain(gains, within, without):
    # The gain of the marks in and all gains above 0 of the open ones: no marks of the case have more.
    open_marks = open_among(gains, within, without)
    return sum([gains[mark] for mark in within]) + sum([max(0, gains[mark]) for mark in open_marks])


def open_among(marks, within, without):
    return [mark for mark in marks if mark not in within and mark not in without]


def all_lists(members):
    # All lists of some of these, in their order; each comes behind all that lack one of its members.
    found = [[]]
    for member in members:
        found = found + [one + [member] for one in found]
    return found


class Grower:
    # Grows the tree for a gain that no marks that fit pass, or for None where no marks fit.

    def __init__(self, sheet, gains, size, gain):
        self.sheet = sheet
        self.gains = gains
        self.size = size
        self.gain = gain

    def tree_for(self, within, without):
        # Where no mark is open the case is a leaf: its marks fit and gain no more, or they do not fit.
        leaf = self.leaf_for(within, without)
        if leaf is not None:
            return leaf
        mark = self.mark_to_part_by(within, without)
        tree_within = self.tree_for(within + [mark], without)
        tree_without = self.tree_for(within, without + [mark])
        return ("part", mark, tree_within, tree_without)

    def leaf_for(self, within, without):
        if self.gain is not None and self.gain >= most_gain(self.gains, within, without):
            return ("small",)
        told = ranks_or_ring_among(self.sheet, within)
        if told[0] == "ring":
            return told
        if standing_size(self.sheet, within, without, told[1]) > self.size:
            return ("big",)
        return None

    def mark_to_part_by(self, within, without):
        # A mark whose cases are leaves, or come near to it, keeps the tree small.
        open_marks = open_among(self.gains, within, without)
        return max(open_marks, key=lambda mark: (
            self.fullness(within + [mark], without) + self.fullness(within, without + [mark])
        ))

    def fullness(self, within, without):
        if self.leaf_for(within, without) is not None:
            # More than two cases together that are no leaves: those are not above the size.
            return 2 * self.size + 1
        ranks = ranks_or_ring_among(self.sheet, within)[1]
        return standing_size(self.sheet, within, without, ranks)

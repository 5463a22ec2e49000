"""Folding: the book in which all calls of some marks have given way, and its size told without making it."""

from callfold.books import calls_of, deed_of, names_reached, own_names, rows_of, trimmed_book
from callfold.errors import Ringed, TooBig
from callfold.placing import MOST_SIZE, placed_deed
from callfold.rings import links_of, rank_deeds


def fold_book(book, marks):
    ranks = ranks_or_refusal(book, marks)
    if size_by_ranks(Sheet(book), marks, ranks) > MOST_SIZE:
        raise TooBig("the folded book would be too big")
    # What is not reached has no part in the folded size: its bodies could be too great to be made.
    reached = trimmed_book(book)
    folded = folded_deeds(reached, marks, ranks)
    return trimmed_book(tuple([folded[deed[0]] for deed in reached]))


def folded_size(book, marks):
    return size_by_ranks(Sheet(book), marks, ranks_or_refusal(book, marks))


def ranks_or_refusal(book, marks):
    told = rank_deeds(book, marks)
    if told[0] == "ring":
        raise Ringed(told[1])
    return told[1]


def folded_deeds(reached, marks, ranks):
    # From the last rank on: the deeds that a deed calls by these marks are folded ahead of it.
    reached_names = [deed[0] for deed in reached]
    folded = {}
    for name in reversed(ranks):
        if name in reached_names:
            deed = deed_of(reached, name)
            bodies = {}
            for number, call in enumerate(calls_of(deed)):
                if call[0] in marks:
                    bodies[number] = folded[call[1]]
            folded[name] = placed_deed(deed, bodies)
    return folded


class Sheet:
    # What sizes and rings hang on, read off a book once: many marks can then be tried fast.

    def __init__(self, book):
        self.names = [deed[0] for deed in book]
        self.links = links_of(book)
        self.calls = {}
        self.row_counts = {}
        self.own_counts = {}
        for deed in book:
            self.calls[deed[0]] = calls_of(deed)
            self.row_counts[deed[0]] = len(rows_of(deed))
            self.own_counts[deed[0]] = len(own_names(deed))


def size_by_ranks(sheet, within, ranks):
    without = [mark for mark in sheet.links if mark not in within]
    return standing_size(sheet, within, without, ranks)


def standing_size(sheet, within, without, ranks):
    # The deeds that calls of marks without bring to stand are counted; calls of open marks bring none.
    row_counts = folded_row_counts(sheet, within, ranks)
    standing = names_reached(sheet.names[:1], names_still_called(sheet, within, without, ranks))
    return sum([1 + row_counts[name] for name in standing])


def folded_row_counts(sheet, within, ranks):
    counts = {}
    for name in reversed(ranks):
        count = sheet.row_counts[name]
        for mark, called in sheet.calls[name]:
            if mark in within:
                # The row of the call makes room for the one that sets what is given: these two even out.
                count += sheet.own_counts[called] + counts[called]
        counts[name] = count
    return counts


def names_still_called(sheet, within, without, ranks):
    # Told is a dict from each deed to the names that its folded body calls by marks without, each once.
    still_called = {}
    for name in reversed(ranks):
        found = {}
        for mark, called in sheet.calls[name]:
            if mark in within:
                for other in still_called[called]:
                    found[other] = True
            elif mark in without:
                found[called] = True
        still_called[name] = list(found)
    return still_called

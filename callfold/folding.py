"""Folding: the book in which all calls of some marks have given way, and its size told without making it."""

from callfold.books import calls_of, deed_of, names_reached, own_names, rows_of, trimmed_book
from callfold.errors import Ringed, TooBig
from callfold.placing import MOST_SIZE, placed_deed
from callfold.rings import rank_deeds


def fold_book(book, marks):
    ranks = ranks_or_refusal(book, marks)
    if size_by_ranks(book, marks, ranks) > MOST_SIZE:
        raise TooBig("the folded book would be too big")
    # What is not reached has no part in the folded size: its bodies could be too great to be made.
    reached = trimmed_book(book)
    folded = folded_deeds(reached, marks, ranks)
    return trimmed_book(tuple([folded[deed[0]] for deed in reached]))


def folded_size(book, marks):
    return size_by_ranks(book, marks, ranks_or_refusal(book, marks))


def ranks_or_refusal(book, marks):
    told = rank_deeds(book, marks)
    if told[0] == "ring":
        raise Ringed(told[1])
    return told[1]


def folded_deeds(reached, marks, ranks):
    # From the last rank on: the deeds that a deed calls by these marks are folded ahead of it.
    reached_names = [deed[0] for deed in reached]
    folded = {}
    for name in reversed(ranks):
        if name in reached_names:
            deed = deed_of(reached, name)
            bodies = {}
            for number, call in enumerate(calls_of(deed)):
                if call[0] in marks:
                    bodies[number] = folded[call[1]]
            folded[name] = placed_deed(deed, bodies)
    return folded


def size_by_ranks(book, marks, ranks):
    row_counts = folded_row_counts(book, marks, ranks)
    standing = names_reached([book[0][0]], names_still_called(book, marks, ranks))
    return sum([1 + row_counts[name] for name in standing])


def folded_row_counts(book, marks, ranks):
    counts = {}
    for name in reversed(ranks):
        deed = deed_of(book, name)
        count = len(rows_of(deed))
        for mark, called in calls_of(deed):
            if mark in marks:
                # The row of the call makes room for the one that sets what is given: these two even out.
                count += len(own_names(deed_of(book, called))) + counts[called]
        counts[name] = count
    return counts


def names_still_called(book, marks, ranks):
    # Told is a dict from each deed to the names that its folded body still calls, each once.
    still_called = {}
    for name in reversed(ranks):
        found = {}
        for mark, called in calls_of(deed_of(book, name)):
            if mark in marks:
                for other in still_called[called]:
                    found[other] = True
            else:
                found[called] = True
        still_called[name] = list(found)
    return still_called

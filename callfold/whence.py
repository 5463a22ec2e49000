"""Whence each row of a folded book comes."""

from callfold.books import deed_of, own_names, rows_of
from callfold.folding import fold_book


def whence_of(book, marks):
    # The folded book is made for its refusals and for the deeds that it still has.
    return [(deed[0], origins_of(book, marks, deed[0], [])) for deed in fold_book(book, marks)]


def origins_of(book, marks, name, way):
    # A row that gives way has no rows within: what takes its place comes in its turn in reading order, too.
    origins = []
    for number, row in enumerate(rows_of(deed_of(book, name))):
        if row[0] == "call" and row[4] in marks:
            origins.extend(origins_in_place(book, marks, row, way + [row[4]]))
        else:
            origins.append((list(way), "row", number))
    return origins


def origins_in_place(book, marks, call, way):
    called = call[2]
    origins = [(list(way), "bind", name) for name in own_names(deed_of(book, called))]
    origins.extend(origins_of(book, marks, called, way))
    origins.append((list(way), "give", None))
    return origins

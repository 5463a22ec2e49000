"""Books: how a fresh one is made, and what is read off any one.

A book is a tuple of deeds, a deed is (name, params, rows, give), and a row is
("set", name, expression), ("say", expression), ("call", name, deed, args, mark),
("when", expression, rows, others) or ("turn", expression, rows).
"""

from callfold.errors import NoDeed, Twice, WrongCount
from callfold.worths import names_in


def made_book(deeds):
    book = tuple(deeds)
    # All names are judged ahead of the first call: the document tells these refusals first.
    refuse_like_names(book)
    refuse_wrong_calls(book)
    return book


def refuse_like_names(book):
    ahead = {}
    for deed in book:
        name = deed[0]
        params = deed[1]
        if name in ahead:
            raise Twice(f"a second deed {name}")
        if len(set(params)) < len(params):
            raise Twice(f"a param twice in deed {name}")
        ahead[name] = True


def refuse_wrong_calls(book):
    param_counts = {}
    for deed in book:
        param_counts[deed[0]] = len(deed[1])
    marks_ahead = {}
    for deed in book:
        for call in call_rows(deed):
            refuse_wrong_call(call, param_counts, marks_ahead)
            marks_ahead[call[4]] = True


def refuse_wrong_call(call, param_counts, marks_ahead):
    called = call[2]
    mark = call[4]
    if called not in param_counts:
        raise NoDeed(f"call {mark} calls no deed")
    if len(call[3]) != param_counts[called]:
        raise WrongCount(f"call {mark} has more or fewer args than {called} has params")
    if mark in marks_ahead:
        raise Twice(f"a second call {mark}")


def deed_of(book, name):
    for deed in book:
        if deed[0] == name:
            return deed
    raise NoDeed(f"no deed {name}")


def rows_of(deed):
    return rows_and_inner(deed[2])


def rows_and_inner(rows):
    found = []
    for row in rows:
        found.append(row)
        for part in inner_parts(row):
            found.extend(rows_and_inner(part))
    return found


def inner_parts(row):
    if row[0] == "when":
        return [row[2], row[3]]
    if row[0] == "turn":
        return [row[2]]
    return []


def call_rows(deed):
    return [row for row in rows_of(deed) if row[0] == "call"]


def calls_of(deed):
    return [(call[4], call[2]) for call in call_rows(deed)]


def own_names(deed):
    plain = [name for name in standing_names(deed) if is_plain(name)]
    return list(deed[1]) + sorted(set(plain) - set(deed[1]))


def standing_names(deed):
    # The order is that in which numbers behind names are told to come first; params have none.
    names = []
    for row in rows_of(deed):
        names.extend(row_names(row))
    return names + names_in(deed[3])


def is_plain(name):
    return "." not in name


def row_names(row):
    # The rows within a row are rows of their own: their names are not counted in here.
    names = []
    for expression in row_expressions(row):
        names.extend(names_in(expression))
    if row[0] == "set" or row[0] == "call":
        names.append(row[1])
    return names


def row_expressions(row):
    if row[0] == "set":
        return [row[2]]
    if row[0] == "call":
        return list(row[3])
    return [row[1]]


def size_of(deed):
    return 1 + len(rows_of(deed))


def book_size(book):
    return sum([size_of(deed) for deed in book])


def trimmed_book(book):
    reached = reached_names(book)
    return tuple([deed for deed in book if deed[0] in reached])


def reached_names(book):
    called_by = {}
    for deed in book:
        called_by[deed[0]] = [called for mark, called in calls_of(deed)]
    return names_reached([deed[0] for deed in book[:1]], called_by)


def names_reached(first_names, called_by):
    reached = {}
    waiting = list(first_names)
    while waiting:
        name = waiting.pop()
        # A deed is gone through once alone: calls may go round in rings.
        if name not in reached:
            reached[name] = True
            waiting.extend(called_by.get(name, []))
    return reached

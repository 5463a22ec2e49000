"""Placing: calls that give way to the bodies they call, and tidy numbers behind names."""

from callfold.books import book_size, calls_of, deed_of, is_plain, own_names, standing_names
from callfold.errors import NoCall, TooBig

MOST_SIZE = 800
NOUGHT = ("number", 0)


def place_call(book, name, at):
    deed = deed_of(book, name)
    calls = calls_of(deed)
    if not 0 <= at < len(calls):
        raise NoCall(f"deed {name} has no call of this number")
    called = deed_of(book, calls[at][1])
    placed = placed_deed(deed, {at: called})
    made = tuple([placed if one[0] == name else one for one in book])
    if book_size(made) > MOST_SIZE:
        raise TooBig("the book would be too big")
    return tidy_book(made)


def tidy_book(book):
    return tuple([tidy_deed(deed) for deed in book])


def is_alike(one, other):
    return tidy_book(one) == tidy_book(other)


def tidy_deed(deed):
    numbers = {}
    tidy_names = {}
    for name in standing_names(deed):
        if not is_plain(name):
            parts = name.partition(".")
            letters = parts[0]
            number = numbers.setdefault(parts[2], len(numbers) + 1)
            tidy_names[name] = f"{letters}.{number}"
    return (deed[0], deed[1], renamed_rows(deed[2], tidy_names), renamed_expression(deed[3], tidy_names))


def placed_deed(deed, bodies):
    # bodies is a dict from the numbers of calls, in reading order, to the deeds whose bodies take their places.
    placer = Placer(bodies)
    return tidy_deed((deed[0], deed[1], placer.rows_for_all(deed[2]), deed[3]))


class Placer:
    # Goes through the rows of one deed in reading order, and so numbers its calls.

    def __init__(self, bodies):
        self.bodies = bodies
        self.call_count = 0

    def rows_for_all(self, rows):
        made = []
        for row in rows:
            made.extend(self.rows_for(row))
        return tuple(made)

    def rows_for(self, row):
        if row[0] == "call":
            return self.rows_for_call(row)
        if row[0] == "turn":
            return [("turn", row[1], self.rows_for_all(row[2]))]
        if row[0] == "when":
            rows = self.rows_for_all(row[2])
            others = self.rows_for_all(row[3])
            return [("when", row[1], rows, others)]
        return [row]

    def rows_for_call(self, call):
        number = self.call_count
        self.call_count += 1
        if number in self.bodies:
            return rows_in_place(call, self.bodies[number], number)
        return [call]


def rows_in_place(call, called, label):
    copies = copies_for(called, label)
    args = dict(zip(called[1], call[3]))
    made = [("set", copies[name], args.get(name, NOUGHT)) for name in own_names(called)]
    made.extend(renamed_rows(called[2], copies))
    made.append(("set", call[1], renamed_expression(called[3], copies)))
    return made


def copies_for(called, label):
    # No number has a dash: till they are made tidy, copies are unlike all names of the calling deed,
    # and, by the label, unlike the copies that another call brings.
    copies = {}
    for name in list(called[1]) + standing_names(called):
        parts = name.partition(".")
        letters = parts[0]
        number = parts[2]
        copies[name] = f"{letters}.{label}-{number}"
    return copies


def renamed_rows(rows, names):
    return tuple([renamed_row(row, names) for row in rows])


def renamed_row(row, names):
    kind = row[0]
    if kind == "set":
        return ("set", names.get(row[1], row[1]), renamed_expression(row[2], names))
    if kind == "call":
        args = tuple([renamed_expression(arg, names) for arg in row[3]])
        return ("call", names.get(row[1], row[1]), row[2], args, row[4])
    head = (kind, renamed_expression(row[1], names))
    return head + tuple([renamed_rows(part, names) for part in row[2:]])


def renamed_expression(expression, names):
    word = expression[0]
    if word == "number":
        return expression
    if word == "name":
        return ("name", names.get(expression[1], expression[1]))
    return (word, renamed_expression(expression[1], names), renamed_expression(expression[2], names))

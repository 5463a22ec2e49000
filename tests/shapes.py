"""What the tests share: short ways to write expressions, rows and deeds, and books drawn by a seeded source.

The asker seeds the source, so that each run of the tests sees the same books.
"""

from callfold.books import made_book
from callfold.errors import TooDeep, TooLong
from callfold.runs import run_book

NAMES = ["a", "b", "c", "x"]
WORDS = ["plus", "less", "times", "over", "rest", "under", "same"]


def num(value):
    return ("number", value)


def nam(name):
    return ("name", name)


def call(mark, called, args=(), name="x"):
    return ("call", name, called, tuple(args), mark)


def deed(name, params=(), rows=(), give=("number", 0)):
    return (name, tuple(params), tuple(rows), give)


def nested(depth, leaf=("number", 1)):
    """An expression of that depth, deep on its left."""
    expression = leaf
    for _ in range(depth - 1):
        expression = ("plus", expression, num(1))
    return expression


def turned(depth, inmost):
    """A row of turns around a row, which then stands that deep."""
    row = inmost
    for _ in range(depth - 1):
        row = ("turn", num(1), (row,))
    return row


def drawn_expression(chance, names, depth=3):
    if depth == 1 or chance.random() < 0.4:
        if chance.random() < 0.6:
            return ("name", chance.choice(names))
        return ("number", chance.choice([0, 1, 1, 2, 3, 7, 999999]))
    left = drawn_expression(chance, names, depth - 1)
    right = drawn_expression(chance, names, depth - 1)
    # Breaking is kept rare enough for most runs to end well.
    word = chance.choice(WORDS if chance.random() < 0.2 else ["plus", "less", "times", "under", "same"])
    return (word, left, right)


def drawn_rows(chance, names, depth, most):
    rows = []
    for _ in range(chance.randint(0, most)):
        kind = chance.choice(["set", "set", "say", "say", "when", "turn"])
        e = drawn_expression(chance, names)
        if kind == "set":
            rows.append(("set", chance.choice(names), e))
        elif kind == "say" or depth == 1:
            rows.append(("say", e))
        elif kind == "when":
            rows.append(("when", e, drawn_rows(chance, names, depth - 1, 2), drawn_rows(chance, names, depth - 1, 2)))
        else:
            rows.append(("turn", e, drawn_rows(chance, names, depth - 1, 2)))
    return tuple(rows)


def with_call(chance, rows, call):
    """The rows with that call put somewhere among them, or within one of them."""
    rows = list(rows)
    place = chance.randint(0, len(rows))
    row = rows[place] if place < len(rows) else None
    if row is not None and row[0] in ("when", "turn") and chance.random() < 0.6:
        part = chance.randint(2, len(row) - 1)
        rows[place] = row[:part] + (with_call(chance, row[part], call),) + row[part + 1:]
    else:
        rows.insert(place, call)
    return tuple(rows)


def drawn_book(chance, most_deeds=5, most_calls=7, back=0.15):
    """A fresh book; back is how often a call goes to any deed, itself and those ahead too."""
    many = chance.randint(1, most_deeds)
    names = [f"deed{letter}" for letter in "abcdefgh"[:many]]
    params = [tuple(chance.sample(NAMES, chance.randint(0, 3))) for _ in names]
    bodies = [drawn_rows(chance, NAMES, 2, 3) for _ in names]
    marks = chance.sample(range(100), most_calls)
    for mark in marks[:chance.randint(0, most_calls)]:
        standing = chance.randrange(many)
        called = chance.randrange(many) if chance.random() < back else chance.randint(standing, many - 1)
        if called == standing and chance.random() >= back:
            called = many - 1 if standing < many - 1 else 0
        args = tuple(drawn_expression(chance, NAMES) for _ in params[called])
        call = ("call", chance.choice(NAMES), names[called], args, mark)
        bodies[standing] = with_call(chance, bodies[standing], call)
    deeds = []
    for place, name in enumerate(names):
        deeds.append((name, params[place], bodies[place], drawn_expression(chance, NAMES)))
    return made_book(deeds)


def all_marks(book):
    found = []
    for deed in book:
        found.extend(marks_in(deed[2]))
    return sorted(found)


def marks_in(rows):
    found = []
    for row in rows:
        if row[0] == "call":
            found.append(row[4])
        elif row[0] in ("when", "turn"):
            for part in row[2:]:
                found.extend(marks_in(part))
    return found


def call_rows_by_mark(book):
    """A dict from each mark to the row of its call."""
    found = {}
    for deed in book:
        waiting = list(deed[2])
        while waiting:
            row = waiting.pop()
            if row[0] == "call":
                found[row[4]] = row
            elif row[0] in ("when", "turn"):
                for part in row[2:]:
                    waiting.extend(part)
    return found


def drawn_marks(chance, book):
    share = chance.choice([0.3, 0.6, 1])
    return [mark for mark in all_marks(book) if chance.random() < share]


def drawn_values(chance, book):
    return [chance.choice([0, 1, 2, 3, 5, 999999]) for _ in book[0][1]]


def drawn_done_runs(chance, book, most):
    """Lists of values, at most so many, on which the book's run is told as done."""
    found = []
    for _ in range(most):
        values = drawn_values(chance, book)
        try:
            told = run_book(book, values)
        except (TooDeep, TooLong):
            continue
        if told[0] == "done":
            found.append(values)
    return found


def drawn_counts(chance, book):
    """A count for each mark, the marks in any order."""
    marks = all_marks(book)
    chance.shuffle(marks)
    return {mark: chance.choice([0, 1, 1, 2, 3, 7, 40]) for mark in marks}


def is_first_called(book):
    return any(called_by(one[2], book[0][0]) for one in book)


def called_by(rows, name):
    for row in rows:
        if row[0] == "call" and row[2] == name:
            return True
        if row[0] in ("when", "turn") and any(called_by(part, name) for part in row[2:]):
            return True
    return False


def drawn_book_of_ways(chance, **form):
    """A fresh book whose first deed no call calls, and that has calls in it."""
    while True:
        book = drawn_book(chance, **form)
        if marks_in(book[0][2]) and not is_first_called(book):
            return book

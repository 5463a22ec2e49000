"""Books written as texts, and texts read as fresh books."""

from callfold.books import made_book
from callfold.errors import NoText

LETTERS = "abcdefghijklmnopqrstuvwxyz"
FIGURES = "0123456789"
# The sign of a word stands at the word's own place.
WORDS = ("plus", "less", "times", "over", "rest", "under", "same")
SIGNS = ("+", "-", "*", "/", ":", "<", "=")

MOST_VALUE = 999999
MOST_MARK = 99
MOST_DEEDS = 8
MOST_CALLS = 10
MOST_ROWS = 20
MOST_PARAMS = 4
LONGEST_NAME = 4
LONGEST_DEED_NAME = 8
DEEPEST_ROW = 3
DEEPEST_EXPRESSION = 5


def book_text(book):
    lines = []
    for deed in book:
        lines.extend(deed_lines(deed))
    return "\n".join(lines)


def deed_lines(deed):
    head = " ".join(["deed", deed[0]] + list(deed[1]))
    give = expression_text(deed[3])
    return [head] + rows_lines(deed[2]) + [f"give {give}"]


def rows_lines(rows):
    lines = []
    for row in rows:
        lines.extend(row_lines(row))
    return lines


def row_lines(row):
    kind = row[0]
    if kind == "call":
        return [call_line(row)]
    if kind == "set":
        return [" ".join([kind, row[1], expression_text(row[2])])]
    lines = [" ".join([kind, expression_text(row[1])])]
    if kind == "say":
        return lines
    lines.extend(rows_lines(row[2]))
    if kind == "when":
        lines.append("else")
        lines.extend(rows_lines(row[3]))
    lines.append("end")
    return lines


def call_line(call):
    args = [expression_text(arg) for arg in call[3]]
    return " ".join(["call", call[1], call[2], str(call[4])] + args)


def expression_text(expression):
    word = expression[0]
    if word == "number":
        return str(expression[1])
    if word == "name":
        return expression[1]
    left = expression_text(expression[1])
    sign = SIGNS[WORDS.index(word)]
    right = expression_text(expression[2])
    return f"({left}{sign}{right})"


class Reader:
    # Hands out the rows of a text one by one, and counts what has a bound.

    def __init__(self, text):
        self.lines = text.split("\n")
        # The number of the row handed out last; at the text's end that of its rows.
        self.row = -1
        self.deed_count = 0
        self.row_count = 0
        self.call_count = 0

    def is_done(self):
        return self.row + 1 == len(self.lines)

    def take_words(self):
        self.row += 1
        if self.row == len(self.lines):
            self.refuse()
        return self.lines[self.row].split(" ")

    def refuse(self):
        raise NoText(self.row)

    def demand(self, holds):
        if not holds:
            self.refuse()

    def count_deed(self):
        self.deed_count += 1
        self.row_count = 0
        self.demand(self.deed_count <= MOST_DEEDS)

    def count_row(self, depth):
        self.row_count += 1
        self.demand(self.row_count <= MOST_ROWS and depth <= DEEPEST_ROW)

    def count_call(self):
        self.call_count += 1
        self.demand(self.call_count <= MOST_CALLS)

    def name_in(self, word, longest):
        self.demand(is_made_of(word, LETTERS, longest))
        return word

    def mark_in(self, word):
        mark = number_in(word, MOST_MARK)
        self.demand(mark is not None)
        return mark

    def expression_in(self, word):
        found = expression_from(word, 0, DEEPEST_EXPRESSION)
        self.demand(found is not None and found[1] == len(word))
        return found[0]


def read_book(text):
    reader = Reader(text)
    deeds = []
    while not reader.is_done():
        deeds.append(read_deed(reader))
    return made_book(deeds)


def read_deed(reader):
    words = reader.take_words()
    reader.demand(words[0] == "deed" and 2 <= len(words) <= 2 + MOST_PARAMS)
    reader.count_deed()
    name = reader.name_in(words[1], LONGEST_DEED_NAME)
    params = tuple([reader.name_in(word, LONGEST_NAME) for word in words[2:]])
    found = read_rows(reader, 1)
    closing = found[1]
    reader.demand(closing[0] == "give" and len(closing) == 2)
    return (name, params, found[0], reader.expression_in(closing[1]))


def read_rows(reader, depth):
    # Told are the rows and the words of the row that ends them; whether that one may is the asker's to judge.
    rows = []
    words = reader.take_words()
    while words[0] not in ("else", "end", "give"):
        rows.append(read_row(reader, words, depth))
        words = reader.take_words()
    return (tuple(rows), words)


def read_row(reader, words, depth):
    reader.count_row(depth)
    kind = words[0]
    if kind == "call":
        return read_call(reader, words)
    if kind == "set":
        reader.demand(len(words) == 3)
        return ("set", reader.name_in(words[1], LONGEST_NAME), reader.expression_in(words[2]))
    reader.demand(kind in ("say", "when", "turn") and len(words) == 2)
    expression = reader.expression_in(words[1])
    if kind == "say":
        return ("say", expression)
    if kind == "turn":
        return ("turn", expression, read_part(reader, depth, "end"))
    rows = read_part(reader, depth, "else")
    others = read_part(reader, depth, "end")
    return ("when", expression, rows, others)


def read_call(reader, words):
    reader.demand(4 <= len(words) <= 4 + MOST_PARAMS)
    reader.count_call()
    name = reader.name_in(words[1], LONGEST_NAME)
    called = reader.name_in(words[2], LONGEST_DEED_NAME)
    mark = reader.mark_in(words[3])
    args = tuple([reader.expression_in(word) for word in words[4:]])
    return ("call", name, called, args, mark)


def read_part(reader, depth, closer):
    found = read_rows(reader, depth + 1)
    reader.demand(found[1] == [closer])
    return found[0]


def is_made_of(word, signs, longest):
    return 1 <= len(word) <= longest and all([sign in signs for sign in word])


def number_in(word, most):
    # The length is judged first: Python's int refuses figures by the thousands.
    if not is_made_of(word, FIGURES, len(str(most))):
        return None
    if word[0] == "0" and word != "0":
        return None
    number = int(word)
    return number if number <= most else None


def expression_from(word, start, room):
    # Told is (expression, the place behind it), or None; room, how deep it may be, bounds the recursion.
    if word[start:start + 1] == "(":
        return None if room == 1 else joined_from(word, start + 1, room - 1)
    stop = start
    while stop < len(word) and (word[stop] in LETTERS or word[stop] in FIGURES):
        stop += 1
    leaf = leaf_in(word[start:stop])
    return None if leaf is None else (leaf, stop)


def joined_from(word, start, room):
    left = expression_from(word, start, room)
    if left is None:
        return None
    sign = word[left[1]:left[1] + 1]
    if sign not in SIGNS:
        return None
    right = expression_from(word, left[1] + 1, room)
    if right is None or word[right[1]:right[1] + 1] != ")":
        return None
    return ((WORDS[SIGNS.index(sign)], left[0], right[0]), right[1] + 1)


def leaf_in(word):
    if is_made_of(word, LETTERS, LONGEST_NAME):
        return ("name", word)
    value = number_in(word, MOST_VALUE)
    return None if value is None else ("number", value)

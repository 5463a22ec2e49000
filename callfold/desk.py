"""The desk: keeps told runs and marks of one book, and answers rows of words."""

from callfold.bestways import best_ways
from callfold.cases import best_marks
from callfold.errors import NoBack, NoRow, TooMany, WrongCount
from callfold.folding import fold_book, folded_size
from callfold.freest import freest_marks
from callfold.gains import count_calls, done_run, gain_of, time_of
from callfold.runs import run_book
from callfold.texts import book_text, number_in, read_book
from callfold.ways import gone_ways

MOST_RUNS = 6
# How great the numbers behind a row's first word may be: a price 1000, a size 2000, a room 60.
BOUNDS = {
    "back": (),
    "show": (),
    "time": (1000,),
    "gain": (1000,),
    "free": (1000,),
    "best": (1000, 2000),
    "ways": (1000, 60),
}
# The same for the rows with any count of words: values and marks.
BOUNDS_OF_ANY = {"keep": 999999, "run": 999999, "fold": 99}


class Desk:
    def __init__(self, text):
        self.book = read_book(text)
        # For each keep and fold that is not taken back, the runs and the marks as they were ahead of it.
        self.past = []
        # These two are never changed, only replaced: so the past can keep them as they are.
        self.runs = []
        self.marks = []

    def say(self, row):
        words = words_of(row)
        word = words[0]
        numbers = numbers_behind(words)
        if word == "keep":
            return self.keep_run(numbers)
        if word == "fold":
            return self.keep_marks(numbers)
        if word == "back":
            return self.take_back()
        if word in ("run", "show", "time"):
            return folded_answer(word, fold_book(self.book, self.marks), self.runs, numbers)
        if word == "ways":
            best = best_ways(self.book, gone_ways(self.book, self.runs), numbers[0], numbers[1])
            return gain_text(best[0], [])
        return self.counted_answer(word, numbers)

    def keep_run(self, values):
        if len(self.runs) == MOST_RUNS:
            raise TooMany("no more runs can be kept")
        if len(values) != len(self.book[0][1]):
            raise WrongCount("more or fewer values than the first deed has params")
        done_run(self.book, values, len(self.runs))
        self.change_to(self.runs + [values], self.marks)
        return "ok"

    def keep_marks(self, numbers):
        marks = sorted(numbers)
        size = folded_size(self.book, marks)
        self.change_to(self.runs, marks)
        return f"size {size}"

    def change_to(self, runs, marks):
        self.past.append((self.runs, self.marks))
        self.runs = runs
        self.marks = marks

    def take_back(self):
        if not self.past:
            raise NoBack("nothing is left to take back")
        ahead = self.past.pop()
        self.runs = ahead[0]
        self.marks = ahead[1]
        return "ok"

    def counted_answer(self, word, numbers):
        counts = count_calls(self.book, self.runs)
        price = numbers[0]
        if word == "gain":
            return str(gain_of(self.book, counts, price, self.marks))
        if word == "free":
            freest = freest_marks(self.book, counts, price)
            return gain_text(freest[0], freest[1])
        best = best_marks(self.book, counts, price, numbers[1])
        if best[0] == "none":
            return "none"
        return gain_text(best[1], best[2])


def words_of(row):
    if not isinstance(row, str):
        raise NoRow("what is no text")
    return row.split(" ")


def numbers_behind(words):
    bounds = bounds_for(words[0], len(words) - 1)
    numbers = [number_in(word, most) for word, most in zip(words[1:], bounds)]
    if None in numbers:
        raise NoRow("a word that should be a number, and is not")
    if words[0] == "fold" and len(set(numbers)) < len(numbers):
        raise NoRow("a mark twice")
    return numbers


def bounds_for(word, many):
    if word in BOUNDS_OF_ANY:
        return [BOUNDS_OF_ANY[word]] * many
    if word not in BOUNDS or len(BOUNDS[word]) != many:
        raise NoRow("no row by its first word or the count of its words")
    return list(BOUNDS[word])


def folded_answer(word, folded, runs, numbers):
    if word == "show":
        return book_text(folded)
    if word == "time":
        return str(time_of(folded, runs, numbers[0]))
    return run_text(run_book(folded, numbers))


def run_text(told):
    said = told[1]
    words = ["breaks"] if told[0] == "broken" else ["gives", str(told[2])]
    if said:
        words = words + ["said"] + [str(value) for value in said]
    return " ".join(words)


def gain_text(gain, marks):
    words = ["gain", str(gain)]
    if marks:
        words = words + ["marks"] + [str(mark) for mark in marks]
    return " ".join(words)

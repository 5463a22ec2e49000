"""Runs: what a book says and gives, how many rows are done, which calls are made."""

from callfold.books import deed_of
from callfold.errors import Broken, TooDeep, TooLong, WrongCount
from callfold.worths import worth_of

MOST_DEEDS_WITHIN = 20
MOST_CALLS_MADE = 300
MOST_ROUNDS = 1000
# A turn goes round as many times as is left when its worth is divided by this.
TURN_DIVISOR = 10


class Block:
    # Rows that are being done: the place of the coming one, and how many rounds are still to begin behind them.

    def __init__(self, rows, place, rounds_left):
        self.rows = rows
        self.place = place
        self.rounds_left = rounds_left


class Work:
    # A deed that runs: what its names hold, its blocks, the inmost last, the caller's name for what it gives,
    # and the marks of the calls by which it came to run, the first deed's own call first.

    def __init__(self, deed, values, holder, way):
        self.give = deed[3]
        self.held = dict(zip(deed[1], values))
        self.blocks = [Block(deed[2], 0, 0)]
        self.holder = holder
        self.way = way


class Run:
    # The deeds that run within one another stand in a list, the first one first: Python's own recursion
    # is not sure to go as deep as 20 deeds with rows 24 deep in each.

    def __init__(self, book):
        self.book = book
        self.works = []
        self.said = []
        self.row_count = 0
        self.calls = {}
        self.ways = {}
        self.call_count = 0
        self.round_count = 0

    def begin_round(self):
        if self.round_count == MOST_ROUNDS:
            raise TooLong("one round too many")
        self.round_count += 1

    def make_call(self, call):
        held = self.works[-1].held
        values = [worth_of(arg, held) for arg in call[3]]
        if len(self.works) == MOST_DEEDS_WITHIN:
            raise TooDeep("too many deeds within one another")
        if self.call_count == MOST_CALLS_MADE:
            raise TooLong("one call too many")
        self.call_count += 1
        self.calls[call[4]] = self.calls.get(call[4], 0) + 1
        way = self.works[-1].way + (call[4],)
        self.ways[way] = self.ways.get(way, 0) + 1
        self.works.append(Work(deed_of(self.book, call[2]), values, call[1], way))

    def end_deed(self):
        ended = self.works.pop()
        given = worth_of(ended.give, ended.held)
        if self.works:
            self.works[-1].held[ended.holder] = given
        return given


def run_book(book, values):
    return run_with_ways(book, values)[0]


def run_with_ways(book, values):
    # Told are what run_book tells, and a dict from each way by which calls were made to how often.
    first = book[0]
    if len(values) != len(first[1]):
        raise WrongCount("more or fewer values than the first deed has params")
    run = Run(book)
    run.works.append(Work(first, values, None, ()))
    try:
        given = run_to_end(run)
    except Broken:
        return (("broken", run.said), run.ways)
    return (("done", run.said, given, run.row_count, run.calls), run.ways)


def run_to_end(run):
    # The deed that ends last is the first one: what it gives is told.
    given = None
    while run.works:
        row = coming_row(run)
        if row is None:
            given = run.end_deed()
        else:
            run.row_count += 1
            do_row(run, row)
    return given


def coming_row(run):
    # Told is None where all rows of the inmost deed are done.
    blocks = run.works[-1].blocks
    while blocks:
        block = blocks[-1]
        if block.place < len(block.rows):
            block.place += 1
            return block.rows[block.place - 1]
        if block.rounds_left > 0:
            run.begin_round()
            block.rounds_left -= 1
            block.place = 0
        else:
            blocks.pop()
    return None


def do_row(run, row):
    kind = row[0]
    work = run.works[-1]
    if kind == "call":
        run.make_call(row)
    elif kind == "set":
        work.held[row[1]] = worth_of(row[2], work.held)
    elif kind == "turn":
        rounds = worth_of(row[1], work.held) % TURN_DIVISOR
        # The block begins at its own end, so that each round, the first one too, is begun in one place.
        work.blocks.append(Block(row[2], len(row[2]), rounds))
    else:
        do_round_row(run, row)


def do_round_row(run, row):
    # A say or a when is a round, which begins ahead of its expression.
    run.begin_round()
    work = run.works[-1]
    worth = worth_of(row[1], work.held)
    if row[0] == "say":
        run.said.append(worth)
    else:
        chosen = row[3] if worth == 0 else row[2]
        work.blocks.append(Block(chosen, 0, 0))

"""Counts of calls on told runs, the time of runs, and what marks gain."""

from callfold.books import deed_of, own_names
from callfold.errors import BadRun, NoMark, TooDeep, TooLong, WrongCount
from callfold.rings import links_by, links_of
from callfold.runs import run_with_ways


def count_calls(book, runs):
    counts = {}
    for mark in sorted(links_of(book)):
        counts[mark] = 0
    for told, ways in done_runs(book, runs):
        for mark, many in told[4].items():
            counts[mark] += many
    return counts


def time_of(book, runs, price):
    return sum([run_time(told, price) for told, ways in done_runs(book, runs)])


def run_time(told, price):
    return told[3] + price * sum(told[4].values())


def done_runs(book, runs):
    # For each run a tuple: what run_book tells, and the ways by which calls were made.
    return [done_run(book, values, number) for number, values in enumerate(runs)]


def done_run(book, values, number):
    try:
        found = run_with_ways(book, values)
    except (WrongCount, TooDeep, TooLong):
        raise BadRun(number) from None
    if found[0][0] != "done":
        raise BadRun(number)
    return found


def mark_gain(book, counts, price, mark):
    links = links_of(book)
    if mark not in links:
        raise NoMark("a mark that no call bears")
    called = deed_of(book, links[mark][1])
    return counts[mark] * (price - len(own_names(called)))


def gain_of(book, counts, price, marks):
    # Refused ahead are marks that do not rise, too; rings are none of the gain's business.
    links_by(book, marks)
    return sum([mark_gain(book, counts, price, mark) for mark in marks])


def gains_by_mark(book, counts, price):
    gains = {}
    for mark in sorted(links_of(book)):
        gains[mark] = mark_gain(book, counts, price, mark)
    return gains

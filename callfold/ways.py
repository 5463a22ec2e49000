"""Ways: the calls, one behind the other, by which runs went, and folding along them."""

from callfold.books import book_size, calls_of, deed_of, own_names, rows_of
from callfold.errors import Called, NoWay, TooBig
from callfold.gains import done_runs
from callfold.placing import MOST_SIZE, placed_deed
from callfold.rings import links_of


def gone_ways(book, runs):
    refuse_called_first(book)
    many_by_way = {}
    for told, ways in done_runs(book, runs):
        for way, many in ways.items():
            many_by_way[way] = many_by_way.get(way, 0) + many
    return [(list(way), many_by_way[way]) for way in sorted(many_by_way)]


def fold_ways(book, ways):
    refuse_called_first(book)
    refuse_wrong_ways(book, ways)
    if book_size(book) + sum([way_weight(book, way) for way in ways]) > MOST_SIZE:
        raise TooBig("the book would be too big")
    return (folded_first(book, ways),) + book[1:]


def refuse_called_first(book):
    first = book[0][0]
    if any([link[1] == first for link in links_of(book).values()]):
        raise Called("the first deed is called")


def refuse_wrong_ways(book, ways):
    links = links_of(book)
    standing = {}
    for way in ways:
        if not is_way(book, links, way):
            raise NoWay("what is no way of the book")
        if tuple(way) in standing:
            raise NoWay("a way twice")
        standing[tuple(way)] = True
    if not all([len(way) == 1 or tuple(way[:-1]) in standing for way in ways]):
        raise NoWay("ways that are not shut")


def is_way(book, links, way):
    if not way or not all([mark in links for mark in way]):
        return False
    # The deeds in which the calls should stand: the first one, then each that the call ahead calls.
    callers = [book[0][0]] + [links[mark][1] for mark in way[:-1]]
    return callers == [links[mark][0] for mark in way]


def deed_behind(book, way):
    return deed_of(book, links_of(book)[way[-1]][1])


def way_weight(book, way):
    called = deed_behind(book, way)
    return len(own_names(called)) + len(rows_of(called))


def folded_first(book, ways):
    # The longest ways first: what gives way within a body is placed in it ahead.
    bodies = {}
    for way in sorted(ways, key=len, reverse=True):
        bodies[tuple(way)] = placed_along(deed_behind(book, way), tuple(way), bodies)
    return placed_along(book[0], (), bodies)


def placed_along(deed, way, bodies):
    chosen = {}
    for number, call in enumerate(calls_of(deed)):
        longer = way + (call[0],)
        if longer in bodies:
            chosen[number] = bodies[longer]
    return placed_deed(deed, chosen)

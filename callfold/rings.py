"""Rings: marks of a fresh book, the rings that they close, and the ranks of deeds where they close none."""

from callfold.books import calls_of
from callfold.errors import NoMark


def rank_deeds(book, marks):
    return ranks_or_ring([deed[0] for deed in book], links_by(book, marks))


def ranks_or_ring(names, links):
    ranks = ranked_names(names, links)
    unranked = [name for name in names if name not in ranks]
    if unranked:
        return ("ring", ring_among(unranked, links))
    return ("ranks", ranks)


def is_ring(book, marks, ring):
    links = links_by(book, marks)
    if not ring or not all([mark in links for mark in ring]):
        return False
    called = [links[mark][1] for mark in ring]
    if len(set(called)) < len(called):
        return False
    # Ahead of the first one stands the last: Python's place -1.
    return all([links[mark][0] == called[place - 1] for place, mark in enumerate(ring)])


def links_of(book):
    # Told is a dict from each mark of the book to (the deed its call stands in, the deed that it calls).
    links = {}
    for deed in book:
        for mark, called in calls_of(deed):
            links[mark] = (deed[0], called)
    return links


def links_by(book, marks):
    links = links_of(book)
    refuse_wrong_marks(marks, links)
    return links_among(links, marks)


def links_among(links, marks):
    chosen = {}
    for mark in marks:
        chosen[mark] = links[mark]
    return chosen


def refuse_wrong_marks(marks, links):
    if not all([mark in links for mark in marks]):
        raise NoMark("a mark that no call bears")
    if not all([marks[place - 1] < marks[place] for place in range(1, len(marks))]):
        raise NoMark("marks that do not rise")


def ranked_names(names, links):
    # The first deed that may come next is taken each time; deeds in a ring, or behind one, never may.
    ranks = []
    waiting = list(names)
    free = first_free(waiting, links)
    while free is not None:
        ranks.append(free)
        waiting.remove(free)
        free = first_free(waiting, links)
    return ranks


def first_free(waiting, links):
    called_by_waiting = [link[1] for link in links.values() if link[0] in waiting]
    for name in waiting:
        if name not in called_by_waiting:
            return name
    return None


def ring_among(unranked, links):
    # Each of these deeds is called in one of them: going back from call to call, one comes to a deed again.
    mark_calling = {}
    for mark in links:
        if links[mark][0] in unranked:
            mark_calling[links[mark][1]] = mark
    passed = []
    marks_back = []
    name = unranked[0]
    while name not in passed:
        passed.append(name)
        marks_back.append(mark_calling[name])
        name = links[mark_calling[name]][0]
    return list(reversed(marks_back[passed.index(name):]))

"""The most gain of marks that close no ring, without a bound of size, with a table over sets of deeds."""

from callfold.cases import all_lists
from callfold.errors import TooMany
from callfold.gains import gains_by_mark
from callfold.rings import links_of

MOST_DEEDS_TRIED = 6


def freest_marks(book, counts, price):
    chosen = chosen_by_places(book, counts, price)
    best = chosen[places_of_all(book)]
    return (best[0], sorted(best[1]), table_of(chosen))


def table_judged(book, counts, price, gain, table):
    # There is one right table alone: each row is fixed by those of fewer deeds.
    chosen = chosen_by_places(book, counts, price)
    return table == table_of(chosen) and gain == chosen[places_of_all(book)][0]


def table_of(chosen):
    return [(places, chosen[places][0]) for places in sorted(chosen)]


def places_of_all(book):
    return tuple(range(len(book)))


def chosen_by_places(book, counts, price):
    # Told is a dict from the places of each set of deeds to (gain, marks): the most gain of marks that
    # go from deeds of the set to others of it and close no ring.
    if len(book) > MOST_DEEDS_TRIED:
        raise TooMany("more deeds than are tried")
    gaining = gaining_marks(book, counts, price)
    chosen = {(): (0, [])}
    for places in all_lists(list(places_of_all(book)))[1:]:
        ranked = [ranked_first(place, places, gaining, chosen) for place in places]
        chosen[tuple(places)] = max(ranked, key=lambda found: found[0])
    return chosen


def ranked_first(place, places, gaining, chosen):
    # Where the deed at this place is ranked first, all marks from it to the others may be taken.
    others = [other for other in places if other != place]
    gain = chosen[tuple(others)][0]
    marks = list(chosen[tuple(others)][1])
    for mark, mark_gain, caller, called in gaining:
        if caller == place and called in others:
            gain += mark_gain
            marks.append(mark)
    return (gain, marks)


def gaining_marks(book, counts, price):
    # For each mark with a gain above 0: (mark, gain, the place of the calling deed, that of the called one).
    place_of = {}
    for place, deed in enumerate(book):
        place_of[deed[0]] = place
    gains = gains_by_mark(book, counts, price)
    links = links_of(book)
    return [
        (mark, gains[mark], place_of[links[mark][0]], place_of[links[mark][1]])
        for mark in gains if gains[mark] > 0
    ]

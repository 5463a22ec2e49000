"""The ways of the most gain within a room, with a table over ways that shows it, and the judge of such tables."""

from callfold.books import own_names
from callfold.errors import TooMany
from callfold.ways import deed_behind, refuse_called_first, way_weight

MOST_WAYS_TRIED = 12


def best_ways(book, gone, price, room):
    plans = plans_by_way(book, gone, price, room)
    best = plans[()][room]
    return (best[0], [list(way) for way in sorted(best[1])], table_of(plans))


def ways_judged(book, gone, price, room, gain, table):
    # There is one right table alone: each row is fixed by those of the ways that go on from its own.
    plans = plans_by_way(book, gone, price, room)
    return table == table_of(plans) and gain == plans[()][room][0]


def table_of(plans):
    return [(list(way), [plan[0] for plan in plans[way]]) for way in sorted(plans)]


def plans_by_way(book, gone, price, room):
    # Told is a dict from () and each gone way to its plans: for each room (gain, ways), the most gain of shut
    # ways from this one on, and these.
    refuse_called_first(book)
    if len(gone) > MOST_WAYS_TRIED:
        raise TooMany("more ways than are tried")
    plans = {}
    for way, many in sorted(gone, key=lambda pair: len(pair[0]), reverse=True):
        gain = many * (price - len(own_names(deed_behind(book, way))))
        shared = shared_plans(tuple(way), plans, room)
        plans[tuple(way)] = plans_with(tuple(way), gain, way_weight(book, way), shared)
    plans[()] = shared_plans((), plans, room)
    return plans


def shared_plans(way, plans, room):
    # For each room the best plan that shares it out among the ways that go on from this one by one mark.
    shared = [(0, [])] * (room + 1)
    for longer in plans:
        if longer[:-1] == way:
            shared = [best_share(shared, plans[longer], size) for size in range(room + 1)]
    return shared


def best_share(shared, added, room):
    return max([joined(shared[room - part], added[part]) for part in range(room + 1)], key=lambda plan: plan[0])


def joined(one, other):
    return (one[0] + other[0], one[1] + other[1])


def plans_with(way, gain, weight, shared):
    found = []
    for room in range(len(shared)):
        plan = (0, [])
        if weight <= room:
            taken = joined((gain, [way]), shared[room - weight])
            plan = max([plan, taken], key=lambda one: one[0])
        found.append(plan)
    return found

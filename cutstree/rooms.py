"""Rooms between places, in 55,440ths, and ways that are taken along them.

Rooms are a table: rooms[i][j] is the room from i to j that a flow leaves. It is changed in place as ways are taken.
"""

from cutstree.amounts import from_parts, parts


def all_rooms(web):
    """The rooms that the flow of no rows leaves."""
    rooms = [[0] * web.many for place in range(web.many)]
    for i, j, weight in web.ties:
        rooms[i][j] = parts(weight)
        rooms[j][i] = parts(weight)
    return rooms


def rooms_left(web, flow):
    """The rooms that a flow leaves."""
    rooms = all_rooms(web)
    for i, j, amount in flow:
        rooms[i][j] -= parts(amount)
        rooms[j][i] += parts(amount)
    return rooms


def carried_by(many, flow):
    """A table of what a flow, loose or not, carries from each place to each other one."""
    carried = [[0] * many for place in range(many)]
    for i, j, amount in flow:
        carried[i][j] = parts(amount)
    return carried


def places_onward(rooms):
    """For each place those to which there is room from it."""
    return [[there for there, room in enumerate(row) if room > 0] for row in rooms]


def places_back(rooms):
    """For each place those from which there is room to it."""
    return [[here for here, row in enumerate(rooms) if row[there] > 0] for there in range(len(rooms))]


def flow_of(web, rooms):
    """The flow that leaves these rooms."""
    rows = []
    for i, j, weight in web.ties:
        brought = parts(weight) - rooms[i][j]
        if brought > 0:
            rows.append((i, j, from_parts(brought)))
        if brought < 0:
            rows.append((j, i, from_parts(-brought)))
    return tuple(sorted(rows))


def take_ways(rooms, froms, tos, bound):
    """Takes ways on which each room is the bound or more till there is none; tells how many."""
    taken = 0
    way = first_way(rooms, froms, tos, bound)
    while way:
        take_way(rooms, way)
        taken += 1
        way = first_way(rooms, froms, tos, bound)
    return taken


def take_way(rooms, way):
    steps = list(zip(way, way[1:]))
    brought = min([rooms[here][there] for here, there in steps])
    for here, there in steps:
        rooms[here][there] -= brought
        rooms[there][here] += brought


def first_way(rooms, froms, tos, bound):
    """The way of the fewest places, of several the first in order; of no places if there is no way."""
    left = steps_left(rooms, tos, bound)
    starts = [place for place in froms if left[place] is not None]
    if not starts:
        return []
    # A way of the fewest places meets no other from and no other to: it would be shorter from there, or till there.
    here = min(starts, key=lambda place: (left[place], place))
    way = [here]
    while left[here] > 0:
        here = next_place(rooms, left, here, bound)
        way.append(here)
    return way


def next_place(rooms, left, here, bound):
    """The least place that is one step nearer to the tos."""
    nearer = left[here] - 1
    return min([there for there, room in enumerate(rooms[here]) if room >= bound and left[there] == nearer])


def steps_left(rooms, tos, bound):
    """For each place in how few steps one comes to a to, None if one never does."""
    left = [None] * len(rooms)
    for place in tos:
        left[place] = 0
    reached = list(tos)
    at = 0
    while at < len(reached):
        there = reached[at]
        for here in range(len(rooms)):
            if left[here] is None and rooms[here][there] >= bound:
                left[here] = left[there] + 1
                reached.append(here)
        at += 1
    return left

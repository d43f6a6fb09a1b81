"""A loose flow led on: taken back where it is above the ties, then made as great as may be."""

from cutstree.amounts import from_parts, parts
from cutstree.errors import NoFlow
from cutstree.flows import loose_worth, refuse_no_ends
from cutstree.rooms import carried_by, first_way, flow_of, rooms_left, take_ways


def led_flow(web, froms, tos, flow):
    refuse_no_ends(web, froms, tos)
    if loose_worth(web, froms, tos, flow) is None:
        raise NoFlow()
    rooms = rooms_left(web, taken_back(web, list(froms) + list(tos), flow))
    take_ways(rooms, froms, tos, 1)
    return flow_of(web, rooms)


def taken_back(web, ends, flow):
    """What is left of a loose flow when nothing is above a tie any more, and all is balanced but at the ends."""
    carried = carried_by(web.many, flow)
    for i, j, amount in flow:
        take_back(carried, ends, i, j, parts(web.tie(i, j)))
    return [(i, j, from_parts(carried[i][j])) for i, j, amount in flow if carried[i][j] > 0]


def take_back(carried, ends, i, j, bound):
    """Takes back what is carried from i to j above a bound, and as much all along whatever brings it there."""
    while carried[i][j] > bound:
        steps = steps_through(carried, ends, i, j)
        much = min([carried[here][there] for here, there in steps] + [carried[i][j] - bound])
        for here, there in steps:
            carried[here][there] -= much


def steps_through(carried, ends, i, j):
    """Steps that carry something, that from i to j among them: a round, or else from an end to an end."""
    # Where there's no round the way to i and the way from j have no place in common, so no step is taken twice.
    back = first_way(carried, (j,), (i,), 1)
    way = [i] + back if back else first_way(carried, ends, (i,), 1) + first_way(carried, (j,), ends, 1)
    return list(zip(way, way[1:]))

"""The sides that a greatest flow shows: the one nearest to its froms, and the one farthest from them."""

from cutstree.errors import NoFlow, NotGreatest
from cutstree.flows import refuse_no_ends, worth_in_parts
from cutstree.reaching import not_reached_from, reached_from
from cutstree.rooms import places_back, places_onward, rooms_left
from cutstree.shortest import shortest_flow


def near_side(web, froms, tos, flow):
    return reached_from(places_onward(greatest_rooms(web, froms, tos, flow)), froms)


def far_side(web, froms, tos, flow):
    return not_reached_from(places_back(greatest_rooms(web, froms, tos, flow)), tos)


def least_cut(web, froms, tos):
    flow = shortest_flow(web, froms, tos)[0]
    return (flow, near_side(web, froms, tos, flow))


def greatest_rooms(web, froms, tos, flow):
    """The rooms that a greatest flow leaves; refuses any other."""
    refuse_no_ends(web, froms, tos)
    if worth_in_parts(web, froms, tos, flow) is None:
        raise NoFlow()
    rooms = rooms_left(web, flow)
    reached = reached_from(places_onward(rooms), froms)
    if any([place in reached for place in tos]):
        raise NotGreatest()
    return rooms

"""A greatest flow by ways of the fewest places."""

from cutstree.flows import refuse_no_ends
from cutstree.rooms import all_rooms, flow_of, take_ways


def shortest_flow(web, froms, tos):
    refuse_no_ends(web, froms, tos)
    rooms = all_rooms(web)
    ways = take_ways(rooms, froms, tos, 1)
    return (flow_of(web, rooms), ways)

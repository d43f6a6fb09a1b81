"""A greatest flow by wide ways first: the bound of what is wide is halved again and again."""

from cutstree.amounts import parts
from cutstree.flows import refuse_no_ends
from cutstree.rooms import all_rooms, flow_of, take_ways


def halved_flow(web, froms, tos):
    refuse_no_ends(web, froms, tos)
    rooms = all_rooms(web)
    ways = 0
    bound = first_bound(web)
    while bound > 0:
        ways += take_ways(rooms, froms, tos, bound)
        bound //= 2
    return (flow_of(web, rooms), ways)


def first_bound(web):
    """The greatest power of two not above the greatest tie, 0 if there are no ties."""
    greatest = max([parts(weight) for i, j, weight in web.ties], default=0)
    bound = 1
    while bound <= greatest:
        bound *= 2
    return bound // 2

"""Ways apart: ways between two places that share no tie, and the fewest ties that must go."""

from cutstree.kinds import is_place, is_row, is_row_of, refuse_no_two_places
from cutstree.near import least_cut
from cutstree.rooms import carried_by, first_way
from cutstree.sides import is_side
from cutstree.webs import Web


def are_ways_apart(web, i, j, ways):
    refuse_no_two_places(web.many, i, j)
    if not is_row(ways) or not all([is_way(web, i, j, way) for way in ways]):
        return False
    steps = [(min(here, there), max(here, there)) for way in ways for here, there in zip(way, way[1:])]
    return len(set(steps)) == len(steps)


def ways_apart(web, i, j):
    return fewest_paper(web, i, j)[0]


def is_fewest(web, i, j, paper):
    refuse_no_two_places(web.many, i, j)
    if not is_row_of(paper, 2):
        return False
    ways, side = paper
    if not are_ways_apart(web, i, j, ways) or not is_side(web, side) or (i in side) == (j in side):
        return False
    return len([tie for tie in web.ties if (tie[0] in side) != (tie[1] in side)]) == len(ways)


def fewest_paper(web, i, j):
    # Where each tie weighs 1, a flow is made of ways that share no tie.
    even = Web(web.many, [(one, other, (1, 1)) for one, other, weight in web.ties])
    flow, side = least_cut(even, (i,), (j,))
    return (ways_along(carried_by(web.many, flow), i, j), side)


def is_way(web, i, j, thing):
    """Whether it leads from i to j along ties, without a place twice."""
    if not is_row(thing) or len(thing) < 2 or not all([is_place(web.many, place) for place in thing]):
        return False
    if thing[0] != i or thing[-1] != j or len(set(thing)) < len(thing):
        return False
    return all([web.tie(here, there) != (0, 1) for here, there in zip(thing, thing[1:])])


def ways_along(carried, i, j):
    """The ways from i to j that a flow carries something along, each step of them taken once; takes them off."""
    ways = []
    way = first_way(carried, (i,), (j,), 1)
    while way:
        for here, there in zip(way, way[1:]):
            carried[here][there] = 0
        ways.append(tuple(way))
        way = first_way(carried, (i,), (j,), 1)
    return tuple(ways)

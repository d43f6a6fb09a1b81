"""The chart of a web's least sides: each of them told once."""

from cutstree.allcuts import all_least
from cutstree.charts import bits, is_crossed, straight_within


def least_chart(web):
    sides = all_least(web)
    known = [bits(side) for side in sides]
    links = tuple([side for side in sides if not is_crossed(bits(side), known)])
    return (links, least_rings([bits(link) for link in links], known))


def least_rings(links, known):
    """The rings of the links, by the least sides that are known; both told by their bits."""
    rings = []
    for k, within in enumerate(straight_within(links)):
        order = ring_order(links, within, known)
        if order:
            rings.append((k, order))
    return tuple(rings)


def ring_order(links, within, known):
    """The order in which the links straight within one follow one another; of none if they are no ring."""
    # Two lie side by side in a ring just if their union is a least side; with two alone that may be the link itself.
    beside = {one: [other for other in within if is_union_known(links, one, other, known)] for one in within}
    ends = [one for one in within if len(beside[one]) == 1]
    if len(within) < 3 or not ends:
        return ()
    order = [ends[0]]
    while len(order) < len(within):
        order.append([other for other in beside[order[-1]] if other not in order][0])
    return tuple(order)


def is_union_known(links, one, other, known):
    return one != other and links[one] | links[other] in known

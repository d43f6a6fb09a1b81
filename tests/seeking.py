"""Slow and plain ways to find what the program tells, for small webs: all sides, all ways."""

from fractions import Fraction
from itertools import combinations, permutations


def fraction(amount):
    return Fraction(amount[0], amount[1])


def amount(number):
    return (number.numerator, number.denominator)


def all_sides(many):
    for length in range(1, many):
        yield from combinations(range(many), length)


def weight_of(web, side):
    return sum((fraction(web.tie(i, j)) for i in side for j in range(web.many) if j not in side), Fraction(0))


def sides_between(web, froms, tos):
    for side in all_sides(web.many):
        if set(froms) <= set(side) and not set(tos) & set(side):
            yield side


def least_between_ends(web, froms, tos):
    return min(weight_of(web, side) for side in sides_between(web, froms, tos))


def all_ends(many):
    """All two rows of places that are ends."""
    for froms in all_sides(many):
        for tos in all_sides(many):
            if not set(froms) & set(tos):
                yield froms, tos


def all_ways(rooms, many, froms, tos, bound):
    """Every way without a place twice, each of whose rooms is above nought and the bound or more."""
    growing = [(place,) for place in froms]
    while growing:
        way = growing.pop()
        for there in range(many):
            room = rooms[way[-1], there]
            if there in way or there in froms or room <= 0 or room < bound:
                continue
            if there in tos:
                yield way + (there,)
            else:
                growing.append(way + (there,))


def flow_by_ways(web, froms, tos, bounds):
    """(flow, ways): for each bound the first of the fewest places among all ways, as long as there is one."""
    many = web.many
    rooms = {(i, j): fraction(web.tie(i, j)) if i != j else 0 for i in range(many) for j in range(many)}
    taken = 0
    for bound in bounds:
        ways = sorted(all_ways(rooms, many, froms, tos, bound), key=lambda way: (len(way), way))
        while ways:
            steps = list(zip(ways[0], ways[0][1:]))
            least = min(rooms[step] for step in steps)
            for here, there in steps:
                rooms[here, there] -= least
                rooms[there, here] += least
            taken += 1
            ways = sorted(all_ways(rooms, many, froms, tos, bound), key=lambda way: (len(way), way))
    brought = {(i, j): fraction(web.tie(i, j)) - rooms[i, j] for i in range(many) for j in range(many) if i != j}
    return (tuple((i, j, amount(much)) for (i, j), much in sorted(brought.items()) if much > 0), taken)


def halved_bounds(web):
    greatest = max((fraction(weight) for i, j, weight in web.ties), default=Fraction(0))
    bounds = [Fraction(1 << power, 55440) for power in range(80)]
    return [bound for bound in reversed(bounds) if bound <= greatest]


def least_sides_between(web, froms, tos):
    """All sides between the ends of the least weight."""
    least = least_between_ends(web, froms, tos)
    return [side for side in sides_between(web, froms, tos) if weight_of(web, side) == least]


def cut_of(web, i, j):
    """The least weight of all sides that part two places."""
    return least_between_ends(web, (i,), (j,))


def all_cuts(web):
    """For each two places u below v their cut, by a search of all sides."""
    cuts = {}
    for side in all_sides(web.many):
        weight = weight_of(web, side) if 0 in side else None
        for u, v in combinations(range(web.many), 2):
            if weight is not None and (u in side) != (v in side):
                cuts[u, v] = min(weight, cuts.get((u, v), weight))
    return cuts


def least_of_sides(web):
    return min(weight_of(web, side) for side in all_sides(web.many))


def least_sides(web):
    """All sides without place 0 of the least weight of all, rising."""
    least = least_of_sides(web)
    return tuple(sorted(side for side in all_sides(web.many) if 0 not in side and weight_of(web, side) == least))


def joined_to(tree, start, without=None):
    """The places that rows of a tree join to one, leaving a row out."""
    found = {start}
    for step in tree:
        for at, (i, j, much) in enumerate(tree):
            if at != without and (i in found) != (j in found):
                found |= {i, j}
    return found


def side_of_row(tree, k):
    """The places that the k-th row parts from place 0."""
    return tuple(sorted(set(range(len(tree) + 1)) - joined_to(tree, 0, without=k)))


def way_of_rows(tree, i, j):
    """The indexes of the rows that part two places, those first that leave fewer places with the first one."""
    parting = [k for k in range(len(tree)) if j not in joined_to(tree, i, without=k)]
    return tuple(sorted(parting, key=lambda k: len(joined_to(tree, i, without=k))))


def is_cut_tree_of(web, tree):
    """Whether each amount is the cut of its two places and the weight of the row's side, by a search of all sides."""
    for k, (i, j, much) in enumerate(tree):
        if not fraction(much) == cut_of(web, i, j) == weight_of(web, side_of_row(tree, k)):
            return False
    return True


def crosses(one, other):
    one, other = set(one), set(other)
    return bool(one & other and one - other and other - one)


def straight_within(links, k):
    """The indexes of the links straight within the k-th, by the words of the promise."""
    held = [at for at, link in enumerate(links) if at != k and set(link) < set(links[k])]
    return [at for at in held if not any(set(links[at]) < set(links[other]) for other in held)]


def right_rings(links):
    """All rings that a chart of these links may have, each by itself."""
    for k, link in enumerate(links):
        within = straight_within(links, k)
        if len(within) >= 3 and sorted(place for at in within for place in links[at]) == list(link):
            for order in permutations(within):
                if order[0] < order[-1]:
                    yield (k, order)


def unions(links, order):
    runs = [order[a:b] for a in range(len(order)) for b in range(a + 2, len(order) + 1) if b - a < len(order)]
    return [tuple(sorted(place for at in run for place in links[at])) for run in runs]


def least_chart_by_search(web):
    """The links that no other least side crosses, and each ring all of whose unions are least sides."""
    sides = least_sides(web)
    links = tuple(side for side in sides if not any(crosses(side, other) for other in sides))
    return (links, tuple(row for row in right_rings(links) if set(unions(links, row[1])) <= set(sides)))

"""Demands: how great the cuts between places are to be at least, and a web of least weight that meets them."""

from cutstree.amounts import from_parts, half, is_below, parts, total
from cutstree.between import all_between
from cutstree.cuttrees import is_cut_tree
from cutstree.errors import NoDemand
from cutstree.kinds import is_row
from cutstree.reaching import joined_by
from cutstree.webs import Web, is_tie

MOST_DEMAND = 1000000
DEMAND_BELOW = 27720


def are_demands(many, demands):
    if not is_row(demands) or not all([is_demand(many, row) for row in demands]):
        return False
    return len({(row[0], row[1]) for row in demands}) == len(demands)


def half_bound(many, demands):
    refuse_no_demands(many, demands)
    greatest = [0] * many
    for i, j, weight in demands:
        greatest[i] = max(greatest[i], parts(weight))
        greatest[j] = max(greatest[j], parts(weight))
    return half(from_parts(sum(greatest)))


def meeting_web(many, demands):
    refuse_no_demands(many, demands)
    rows = [(i, j, parts(weight)) for i, j, weight in demands]
    ties = {}
    before = 0
    for level in sorted({much for i, j, much in rows if much > 0}):
        for heap in joined_by(many, [(i, j) for i, j, much in rows if much >= level]):
            tie_heap(ties, heap, level - before)
        before = level
    return Web(many, [(i, j, from_parts(much)) for (i, j), much in ties.items()])


def meets(web, demands, tree, paper):
    if not are_demands(web.many, demands) or not is_cut_tree(web, tree, paper):
        return False
    cuts = {(i, j): amount for i, j, amount in all_between(tree)}
    return not any([is_below(cuts[(i, j)], weight) for i, j, weight in demands])


def is_least_web(web, demands, tree, paper):
    if not meets(web, demands, tree, paper):
        return False
    return total([weight for i, j, weight in web.ties]) == half_bound(web.many, demands)


def is_demand(many, thing):
    return is_tie(many, thing) and thing[2][0] <= MOST_DEMAND and DEMAND_BELOW % thing[2][1] == 0


def refuse_no_demands(many, demands):
    if not are_demands(many, demands):
        raise NoDemand()


def tie_heap(ties, heap, much):
    """Makes all cuts within a heap so much greater: by one tie, or by half of it all round a ring."""
    if len(heap) == 2:
        add_to_tie(ties, heap[0], heap[1], much)
    if len(heap) > 2:
        # A demand's below divides half of 55,440, so nothing is lost by halving.
        for i, j in list(zip(heap, heap[1:])) + [(heap[0], heap[-1])]:
            add_to_tie(ties, i, j, much // 2)


def add_to_tie(ties, i, j, much):
    ties[(i, j)] = ties.get((i, j), 0) + much

"""The least cut of all two places of a web."""

from cutstree.amounts import from_parts, parts
from cutstree.errors import OnePlace
from cutstree.flows import worth_in_parts
from cutstree.heaps import heaped_rooms, joined
from cutstree.kinds import is_row_of
from cutstree.pushing import pushed_flow
from cutstree.sides import apart_from_nought, is_side, side_weight
from cutstree.trees import first_least, refuse_no_tree, side_behind


def least_by_tree(tree):
    refuse_no_tree(tree)
    if len(tree) == 0:
        raise OnePlace()
    k = first_least(tree, tuple(range(len(tree))))
    return (tuple(tree[k][2]), side_behind(tree, k))


def least_of_all(web):
    refuse_one_place(web)
    heaps = [(place,) for place in range(web.many)]
    found = []
    while len(heaps) > 1:
        rooms = heaped_rooms(web, heaps)
        *others_in, before, last = put_in_order(rooms)
        found.append((sum(rooms[last]), heaps[last]))
        heaps = [heaps[at] for at in others_in] + [joined([heaps[before], heaps[last]])]
    weight, side = min(found)
    return (from_parts(weight), apart_from_nought(web, side))


def put_in_order(rooms):
    """The indexes of a table of rooms, each the one most tied to those ahead of it."""
    tied = {at: 0 for at in range(len(rooms))}
    order = []
    while tied:
        here = max(tied, key=lambda at: tied[at])
        order.append(here)
        del tied[here]
        for there in list(tied):
            tied[there] += rooms[here][there]
    return order


def refuse_one_place(web):
    if web.many == 1:
        raise OnePlace()


def is_least_of_all(web, paper):
    if web.many == 1 or not is_row_of(paper, 2):
        return False
    side, flows = paper
    if not is_side(web, side) or not is_row_of(flows, web.many - 1):
        return False
    worths = [worth_in_parts(web, (0,), (k,), flow) for k, flow in enumerate(flows, start=1)]
    return None not in worths and min(worths) >= parts(side_weight(web, side))


def whole_paper(web):
    side = least_of_all(web)[1]
    return (side, tuple([pushed_flow(web, (0,), (k,)) for k in range(1, web.many)]))

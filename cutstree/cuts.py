"""Papers of cuts: a flow, and a side of the same weight, that show one another to be best."""

from cutstree.flows import flow_worth, is_flow, refuse_no_ends
from cutstree.kinds import is_row_of
from cutstree.sides import is_side, side_weight


def is_least_cut(web, froms, tos, paper):
    refuse_no_ends(web, froms, tos)
    if not is_row_of(paper, 2):
        return False
    flow, side = paper
    if not is_flow(web, froms, tos, flow) or not is_side_between(web, froms, tos, side):
        return False
    return flow_worth(web, froms, tos, flow) == side_weight(web, side)


def is_side_between(web, froms, tos, side):
    if not is_side(web, side):
        return False
    return all([place in side for place in froms]) and not any([place in side for place in tos])

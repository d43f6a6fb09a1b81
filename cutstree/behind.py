"""What a cut tree still tells, without any flow, behind the change of a weight."""

from cutstree.amounts import is_below, less, plus
from cutstree.between import all_between
from cutstree.changes import refuse_no_change
from cutstree.trees import first_least, refuse_no_tree_of, steps_from, tree_way


def told_behind(web, tree, i, j, weight):
    refuse_no_lead(web, tree, i, j, weight)
    before = web.tie(i, j)
    if before == tuple(weight):
        return all_between(tree)
    between = tree_way(tree, i, j)
    if is_below(before, weight):
        return told_behind_rise(met_rows(tree, between))
    return told_behind_fall(met_rows(tree, between), less(before, weight), tree[first_least(tree, between)][2])


def refuse_no_lead(web, tree, i, j, weight):
    refuse_no_change(web, i, j, weight)
    refuse_no_tree_of(web, tree)


def told_behind_rise(rows):
    return tuple([(u, v, met[0]) for u, v, met in rows if met[2]])


def told_behind_fall(rows, fall, least):
    told = []
    for u, v, (amount, lies_between, lies_elsewhere) in rows:
        if lies_between:
            told.append((u, v, less(amount, fall)))
        elif not is_below(least, plus(amount, fall)):
            told.append((u, v, amount))
    return tuple(told)


def met_rows(tree, between):
    """Rows (u, v, what is met between them), rising, of all two places."""
    rows = []
    for place in range(len(tree) + 1):
        met = least_met(tree, between, place)
        rows.extend([(place, other, met[other]) for other in range(place + 1, len(tree) + 1)])
    return rows


def least_met(tree, between, start):
    """For each other place (the least amount on its way, whether such a row lies between, whether one doesn't)."""
    met = {}
    for here, there, at in steps_from(tree, start):
        own = (tuple(tree[at][2]), at in between, at not in between)
        met[there] = own if here == start else least_of_two(met[here], own)
    return met


def least_of_two(one, other):
    if is_below(one[0], other[0]):
        return one
    if is_below(other[0], one[0]):
        return other
    return (one[0], one[1] or other[1], one[2] or other[2])

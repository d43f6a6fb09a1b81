"""What a tree tells of two places: the least amount on the way between them."""

from cutstree.amounts import is_below
from cutstree.trees import first_least, refuse_no_tree, side_behind, steps_from, tree_way


def least_between(tree, i, j):
    k = first_least(tree, tree_way(tree, i, j))
    return (tuple(tree[k][2]), side_behind(tree, k))


def all_between(tree):
    refuse_no_tree(tree)
    rows = []
    for place in range(len(tree) + 1):
        least = least_from(tree, place)
        rows.extend([(place, other, least[other]) for other in range(place + 1, len(tree) + 1)])
    return tuple(rows)


def least_from(tree, start):
    """For each other place the least amount on the way from this one."""
    least = {}
    for here, there, at in steps_from(tree, start):
        amount = tuple(tree[at][2])
        least[there] = amount if here == start or is_below(amount, least[here]) else least[here]
    return least

"""Trees: rows (i, j, amount), one less than there are places, that join all of them."""

from cutstree.amounts import is_amount, is_below
from cutstree.errors import NoPlace, NoTree
from cutstree.kinds import is_between_places, is_place, is_rising, is_row, is_row_of, refuse_no_two_places
from cutstree.webs import MOST_PLACES


def is_tree(many, tree):
    if many > MOST_PLACES or not is_row_of(tree, many - 1):
        return False
    if not all([is_between_places(many, row) and is_amount(row[2]) for row in tree]):
        return False
    return is_rising([(row[0], row[1]) for row in tree]) and len(steps_from(tree, 0)) == many - 1


def tree_way(tree, i, j):
    refuse_no_tree(tree)
    refuse_no_two_places(len(tree) + 1, i, j)
    came = {there: (here, at) for here, there, at in steps_from(tree, j)}
    way = []
    place = i
    while place != j:
        place, at = came[place]
        way.append(at)
    return tuple(way)


def tree_side(tree, k):
    refuse_no_tree(tree)
    if not is_place(len(tree), k):
        raise NoPlace()
    return side_behind(tree, k)


def refuse_no_tree(tree):
    if not is_row(tree) or not is_tree(len(tree) + 1, tree):
        raise NoTree()


def refuse_no_tree_of(web, tree):
    if not is_tree(web.many, tree):
        raise NoTree()


def side_behind(tree, k):
    """The places that the k-th row of a tree parts from place 0."""
    behind = {}
    for here, there, at in steps_from(tree, 0):
        if at == k or here in behind:
            behind[there] = True
    return tuple(sorted(behind))


def steps_from(tree, start):
    """Steps (here, there, index of a row) from a place to all that rows join it to, each behind what leads to it."""
    beside = rows_beside(tree)
    seen = {start: True}
    waiting = [start]
    steps = []
    while waiting:
        here = waiting.pop()
        for there, at in beside[here]:
            if there not in seen:
                seen[there] = True
                waiting.append(there)
                steps.append((here, there, at))
    return steps


def rows_beside(tree):
    """For each place (place, index of a row) of those that a row joins it to."""
    beside = [[] for place in range(len(tree) + 1)]
    for at, row in enumerate(tree):
        beside[row[0]].append((row[1], at))
        beside[row[1]].append((row[0], at))
    return beside


def row_between(one, other, amount):
    """The row of a tree between two places, handed in in either order."""
    return (min(one, other), max(one, other), amount)


def first_least(tree, indexes):
    """Of some indexes of a tree's rows the first one of a row of the least amount."""
    least = indexes[0]
    for at in indexes:
        if is_below(tree[at][2], tree[least][2]):
            least = at
    return least

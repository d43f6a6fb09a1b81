"""Cut trees led on when a web changes: what is still sure stays, and the rest alone is asked for anew."""

from cutstree.amounts import parts
from cutstree.behind import refuse_no_lead
from cutstree.changes import changed
from cutstree.drawn import grown_tree
from cutstree.reaching import joined_by
from cutstree.trees import tree_way


def led_tree(web, tree, i, j, weight):
    refuse_no_lead(web, tree, i, j, weight)
    if web.tie(i, j) == tuple(weight):
        return (tuple([(one, other, tuple(amount)) for one, other, amount in tree]), 0)
    rows = [(one, other, parts(amount)) for one, other, amount in tree]
    between = tree_way(tree, i, j)
    fall = parts(web.tie(i, j)) - parts(weight)
    if fall < 0:
        return regrown_tree(changed(web, i, j, weight), rows, between)
    least = min([rows[at][2] for at in between])
    unsure = [at for at, row in enumerate(rows) if at not in between and row[2] > least - fall]
    return regrown_tree(changed(web, i, j, weight), fallen(rows, between, fall), unsure)


def fallen(rows, between, fall):
    """The rows, those lying between with so much less."""
    return [(i, j, much - fall) if at in between else (i, j, much) for at, (i, j, much) in enumerate(rows)]


def regrown_tree(web, rows, unsure):
    """(tree, asked): the rows but the unsure ones stay; the places that unsure ones join are parted anew."""
    return tree_of_joined(web, [row for at, row in enumerate(rows) if at not in unsure],
                          [(rows[at][0], rows[at][1]) for at in unsure])


def tree_of_joined(web, rows, pairs):
    """(tree, asked): grown out of rows (i, j, 55,440ths) that stay, and the heaps of what pairs join."""
    heaps = joined_by(web.many, pairs)
    heap_of = {place: at for at, heap in enumerate(heaps) for place in heap}
    return grown_tree(web, list(heaps), [(heap_of[i], heap_of[j], much) for i, j, much in rows])


def tree_with_last(web, tree):
    """(tree, asked): a cut tree of the web, out of one of the web that it was ahead of its last place."""
    last = web.many - 1
    # The rows that part no two of the places tied to the last one weigh as before, if it joins the side they are on.
    tied = [i for i, j, weight in web.ties if j == last] or [0]
    between = {at: True for place in tied[1:] for at in tree_way(tree, tied[0], place)}
    rows = [(i, j, parts(amount)) for i, j, amount in tree]
    pairs = [(rows[at][0], rows[at][1]) for at in between] + [(tied[0], last)]
    return tree_of_joined(web, [row for at, row in enumerate(rows) if at not in between], pairs)

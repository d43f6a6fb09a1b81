"""Cut trees of a web, and their papers: one flow for each row."""

from cutstree.amounts import from_parts
from cutstree.errors import NoTree
from cutstree.flows import worth_in_parts
from cutstree.kinds import is_row_of
from cutstree.pushing import pushed_flow
from cutstree.sides import side_weight
from cutstree.trees import is_tree, side_behind


def is_cut_tree(web, tree, paper):
    if not is_tree(web.many, tree) or not is_row_of(paper, len(tree)):
        return False
    return sides_weigh_right(web, tree) and all([is_worth(web, row, flow) for row, flow in zip(tree, paper)])


def tree_paper(web, tree):
    # The sides are looked at ahead of all flows, which take far longer.
    if not is_tree(web.many, tree) or not sides_weigh_right(web, tree):
        raise NoTree()
    paper = tuple([pushed_flow(web, (i,), (j,)) for i, j, amount in tree])
    if not is_cut_tree(web, tree, paper):
        raise NoTree()
    return paper


def sides_weigh_right(web, tree):
    return all([side_weight(web, side_behind(tree, k)) == tuple(row[2]) for k, row in enumerate(tree)])


def is_worth(web, row, flow):
    """Whether it is a flow between a row's two places, of the worth of its amount."""
    worth = worth_in_parts(web, (row[0],), (row[1],), flow)
    return worth is not None and from_parts(worth) == tuple(row[2])

"""[16]: cut trees and their papers."""

from cutstree.cuttrees import is_cut_tree, tree_paper
from cutstree.errors import NoTree
from cutstree.flows import flow_worth
from cutstree.halving import halved_flow
from cutstree.shortest import shortest_flow
from cutstree.trees import tree_side, tree_way
from cutstree.webs import Web
from tests.seeking import cut_of, fraction, is_cut_tree_of, weight_of
from tests.shapes import full, in_pieces, path, rows, star, whole
from tests.things import ODD, Case, as_lists, is_told

# Between 0 and 1 there are 3, 1 and 2 side by side; 2 is tied to both, 3 to 2 alone.
WEB = whole(4, [(0, 1, 3), (0, 2, 1), (1, 2, 2), (2, 3, 2)])
TREE = rows([(0, 1, 4), (1, 2, 3), (2, 3, 2)])
PAPER = (
    rows([(0, 1, 3), (0, 2, 1), (2, 1, 1)]),
    rows([(0, 2, 1), (1, 0, 1), (1, 2, 2)]),
    rows([(2, 3, 2)]),
)


def replaced(row, at, thing):
    return row[:at] + (thing,) + row[at + 1:]


class Checked(Case):
    def test_right_papers(self):
        for tree in (TREE, list(TREE), as_lists(TREE)):
            for paper in (PAPER, list(PAPER), as_lists(PAPER)):
                self.assertIs(is_cut_tree(WEB, tree, paper), True)
        self.assertTrue(is_cut_tree_of(WEB, TREE))

    def test_one_place_and_two(self):
        for row in ((), []):
            self.assertIs(is_cut_tree(Web(1, ()), row, row), True)
            self.assertIs(is_cut_tree(Web(2, ()), row, row), False)
        self.assertIs(is_cut_tree(Web(1, ()), (), ((),)), False)
        self.assertIs(is_cut_tree(Web(2, ()), ((0, 1, (0, 1)),), ((),)), True)
        web = Web(2, [(0, 1, (5, 12))])
        self.assertIs(is_cut_tree(web, ((0, 1, (5, 12)),), (((0, 1, (5, 12)),),)), True)
        self.assertIs(is_cut_tree(web, ((0, 1, (5, 12)),), (((1, 0, (5, 12)),),)), False)
        self.assertIs(is_cut_tree(web, ((0, 1, (10, 24)),), (((0, 1, (5, 12)),),)), False)

    def test_no_ties(self):
        tree = tuple((k, k + 1, (0, 1)) for k in range(39))
        self.assertIs(is_cut_tree(Web(40, ()), tree, ((),) * 39), True)

    def test_any_greatest_flows(self):
        for call in (shortest_flow, halved_flow):
            paper = tuple(call(WEB, (i,), (j,))[0] for i, j, much in TREE)
            self.assertIs(is_cut_tree(WEB, TREE, paper), True)

    def test_the_tree_bent(self):
        for k in range(3):
            i, j, much = TREE[k]
            for row in ((i, j, (much[0] + 1, 1)), (i, j, (much[0] - 1, 1)), (i, j, (2 * much[0], 2)), (j, i, much),
                        (i, j), (i, j, None), None):
                self.assertIs(is_cut_tree(WEB, replaced(TREE, k, row), PAPER), False)
            self.assertIs(is_cut_tree(WEB, TREE[:k] + TREE[k + 1:], PAPER), False)
            self.assertIs(is_cut_tree(WEB, TREE[:k] + TREE[k + 1:], PAPER[:k] + PAPER[k + 1:]), False)
        self.assertIs(is_cut_tree(WEB, TREE[::-1], PAPER[::-1]), False)

    def test_right_cuts_but_wrong_sides(self):
        # Each amount is the cut of its two places, but the rows' sides, (1, 2, 3) and (1,), weigh 4 and 5.
        self.assertEqual((cut_of(WEB, 0, 2), cut_of(WEB, 1, 2), cut_of(WEB, 2, 3)), (3, 3, 2))
        wrong = rows([(0, 2, 3), (1, 2, 3), (2, 3, 2)])
        paper = tuple(shortest_flow(WEB, (i,), (j,))[0] for i, j, much in wrong)
        for flow, (i, j, much) in zip(paper, wrong):
            self.assertEqual(flow_worth(WEB, (i,), (j,), flow), much)
        self.assertIs(is_cut_tree(WEB, wrong, paper), False)

    def test_the_paper_bent(self):
        for paper in ((), PAPER[:2], PAPER[1:], PAPER + ((),), PAPER + PAPER[2:], PAPER[::-1], dict(enumerate(PAPER))):
            self.assertIs(is_cut_tree(WEB, TREE, paper), False)
        for k in range(3):
            for flow in ((), PAPER[k][:-1], PAPER[k][1:], PAPER[k] + PAPER[k][-1:], PAPER[(k + 1) % 3],
                         replaced(PAPER[k], 0, PAPER[k][0][:2] + ((9, 1),)), None, PAPER):
                self.assertIs(is_cut_tree(WEB, TREE, replaced(PAPER, k, flow)), False)

    def test_a_flow_of_less_worth(self):
        less = rows([(0, 1, 3)])
        self.assertEqual(flow_worth(WEB, (0,), (1,), less), (3, 1))
        self.assertIs(is_cut_tree(WEB, TREE, replaced(PAPER, 0, less)), False)

    def test_a_flow_the_other_way(self):
        back = tuple(sorted((j, i, much) for i, j, much in PAPER[0]))
        self.assertIs(is_cut_tree(WEB, TREE, replaced(PAPER, 0, back)), False)

    def test_another_web(self):
        self.assertIs(is_cut_tree(whole(4, [(0, 1, 3), (0, 2, 1), (1, 2, 2)]), TREE, PAPER), False)
        self.assertIs(is_cut_tree(whole(5, [(0, 1, 3), (0, 2, 1), (1, 2, 2), (2, 3, 2)]), TREE, PAPER), False)

    def test_things_of_any_kind(self):
        for thing in ODD + (0, "x", ()):
            self.assertIs(is_cut_tree(WEB, thing, PAPER), False)
            self.assertIs(is_cut_tree(WEB, TREE, thing), False)
            self.assertIs(is_cut_tree(WEB, thing, thing), False)
            for k in range(3):
                self.assertIs(is_cut_tree(WEB, replaced(TREE, k, thing), PAPER), False)
                self.assertIs(is_cut_tree(WEB, TREE, replaced(PAPER, k, thing)), False)

    def test_where_it_is_true_all_cuts_are_told(self):
        for i in range(4):
            for j in set(range(4)) - {i}:
                least = min(fraction(TREE[k][2]) for k in tree_way(TREE, i, j))
                self.assertEqual(least, cut_of(WEB, i, j))
                for k in tree_way(TREE, i, j):
                    side = tree_side(TREE, k)
                    self.assertEqual(weight_of(WEB, side), fraction(TREE[k][2]))
                    self.assertEqual(len({i, j} & set(side)), 1)

    def test_nothing_handed_in_is_changed(self):
        tree, paper = as_lists(TREE), as_lists(PAPER)
        is_cut_tree(WEB, tree, paper), tree_paper(WEB, tree)
        self.assertEqual((tree, paper), (as_lists(TREE), as_lists(PAPER)))


class Papers(Case):
    def test_let_by(self):
        for web, tree in ((WEB, TREE), (WEB, as_lists(TREE)), (Web(1, ()), ()), (Web(1, ()), []),
                          (path(40, ((5, 2), (1, 3))), path(40, ((5, 2), (1, 3))).ties),
                          (star(17, ((5, 2), (1, 3)), 4), star(17, ((5, 2), (1, 3)), 4).ties),
                          (full(9), rows([(0, k, 8) for k in range(1, 9)])),
                          (Web(5, ()), tuple((0, k, (0, 1)) for k in range(1, 5)))):
            paper = tree_paper(web, tree)
            self.assertTrue(is_told(paper))
            self.assertEqual(len(paper), len(tree))
            self.assertIs(is_cut_tree(web, tree, paper), True)
            self.assertEqual(tree_paper(web, tree), paper)

    def test_the_tree_of_another_web(self):
        self.refuses(NoTree, tree_paper, whole(4, [(0, 1, 3), (0, 2, 1), (1, 2, 2)]), TREE)
        self.refuses(NoTree, tree_paper, whole(5, [(0, 1, 3), (0, 2, 1), (1, 2, 2), (2, 3, 2)]), TREE)
        self.refuses(NoTree, tree_paper, in_pieces(5), path(5).ties)

    def test_trees_that_are_no_cut_trees(self):
        for k in range(3):
            i, j, much = TREE[k]
            for amount in ((much[0] + 1, 1), (much[0] - 1, 1), (0, 1), (10 ** 50, 1), (1, 10 ** 50)):
                self.refuses(NoTree, tree_paper, WEB, replaced(TREE, k, (i, j, amount)))
        self.refuses(NoTree, tree_paper, WEB, rows([(0, 2, 3), (1, 2, 3), (2, 3, 2)]))
        web = whole(4, [(0, 1, 1), (0, 3, 9), (1, 2, 1), (2, 3, 9)])
        self.assertEqual(len(tree_paper(web, rows([(0, 1, 2), (0, 3, 10), (2, 3, 10)]))), 3)
        self.refuses(NoTree, tree_paper, web, rows([(0, 1, 2), (0, 3, 10), (2, 3, 2)]))
        self.refuses(NoTree, tree_paper, web, rows([(0, 1, 2), (0, 2, 10), (0, 3, 10)]))

    def test_sides_right_but_a_lesser_cut(self):
        # The side of 0 and 3, with 1 and 2 behind, weighs 4 as told; but 0 and 1 can be parted by 2.
        web = whole(4, [(0, 1, 1), (0, 2, 2), (0, 3, 5), (1, 2, 1), (2, 3, 1)])
        tree = rows([(0, 1, 4), (0, 3, 6), (1, 2, 4)])
        self.assertEqual([weight_of(web, side) for side in ((1, 2), (3,), (2,))], [4, 6, 4])
        self.assertEqual(cut_of(web, 0, 1), 2)
        self.refuses(NoTree, tree_paper, web, tree)
        paper = [shortest_flow(web, (i,), (j,))[0] for i, j, much in tree]
        self.assertIs(is_cut_tree(web, tree, paper), False)

    def test_things_of_any_kind(self):
        for thing in ODD + (0, "x", (), TREE[:2], TREE[1:], TREE[::-1], TREE + TREE[2:]):
            self.refuses(NoTree, tree_paper, WEB, thing)
            for k in range(3):
                self.refuses(NoTree, tree_paper, WEB, replaced(TREE, k, thing))
        for thing in ODD:
            self.refuses(NoTree, tree_paper, Web(1, ()), thing)

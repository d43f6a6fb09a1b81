"""[17]: what a tree tells of two places."""

from cutstree.between import all_between, least_between
from cutstree.cuttrees import tree_paper
from cutstree.errors import NoPlace, NoTree
from cutstree.webs import Web
from tests.seeking import amount, cut_of, fraction, side_of_row, way_of_rows, weight_of
from tests.shapes import rows, whole
from tests.test_trees import NO_TREES, TREE, made_tree
from tests.things import ODD, Case, as_lists, numbers

# A path with the least amount three times: 0 -2- 1 -1- 2 -1- 3 -3- 4 -1- 5
ALIKE = rows([(0, 1, 2), (1, 2, 1), (2, 3, 1), (3, 4, 3), (4, 5, 1)])


def first_least_row(tree, i, j):
    way = way_of_rows(tree, i, j)
    least = min(fraction(tree[k][2]) for k in way)
    return [k for k in way if fraction(tree[k][2]) == least][0]


class Two(Case):
    def test_by_hand(self):
        self.tells(least_between(TREE, 0, 1), ((5, 12), (1,)))
        self.tells(least_between(TREE, 1, 0), ((5, 12), (1,)))
        self.tells(least_between(TREE, 5, 4), ((1, 10 ** 40), (5,)))
        self.tells(least_between(TREE, 0, 4), ((0, 1), (3, 4, 5)))
        self.tells(least_between(TREE, 3, 4), ((10 ** 40, 7), (4,)))
        self.tells(least_between(as_lists(TREE), 2, 0), ((3, 1), (1, 2, 3, 4, 5)))
        self.tells(least_between(((0, 1, (0, 1)),), 1, 0), ((0, 1), (1,)))

    def test_the_first_of_several_alike(self):
        self.tells(least_between(ALIKE, 0, 5), ((1, 1), (2, 3, 4, 5)))
        self.tells(least_between(ALIKE, 5, 0), ((1, 1), (5,)))
        self.tells(least_between(ALIKE, 0, 4), ((1, 1), (2, 3, 4, 5)))
        self.tells(least_between(ALIKE, 4, 0), ((1, 1), (3, 4, 5)))
        self.tells(least_between(ALIKE, 2, 4), ((1, 1), (3, 4, 5)))

    def test_fractions_are_compared_as_such(self):
        tree = ((0, 1, (2, 3)), (1, 2, (3, 5)), (2, 3, (5, 8)))
        self.tells(least_between(tree, 0, 3), ((3, 5), (2, 3)))
        self.tells(least_between(tree, 3, 2), ((5, 8), (3,)))

    def test_of_all_two_places(self):
        source = numbers(61)
        for many in (2, 3, 6, 12):
            tree = made_tree(many, source)
            for i in range(many):
                for j in set(range(many)) - {i}:
                    k = first_least_row(tree, i, j)
                    self.tells(least_between(tree, i, j), (tree[k][2], side_of_row(tree, k)))

    def test_refused(self):
        for thing in ODD + (6, "0", (0,)):
            self.refuses(NoPlace, least_between, TREE, thing, 1)
            self.refuses(NoPlace, least_between, TREE, 1, thing)
            self.refuses(NoTree, least_between, None, thing, thing)
            self.refuses(NoTree, least_between, ((0, 1, (2, 2)),), thing, thing)
        for place in range(6):
            self.refuses(NoPlace, least_between, TREE, place, place)
        for thing in ODD + (0, TREE[1:]):
            self.refuses(NoTree, least_between, thing, 0, 1)
        self.refuses(NoPlace, least_between, (), 0, 0)
        self.refuses(NoTree, least_between, tuple((k, k + 1, (1, 1)) for k in range(40)), 0, 1)


class All(Case):
    def test_by_hand(self):
        tree = rows([(0, 2, 3), (1, 2, 5), (2, 3, 4)])
        found = rows([(0, 1, 3), (0, 2, 3), (0, 3, 3), (1, 2, 5), (1, 3, 4), (2, 3, 4)])
        self.tells(all_between(tree), found)
        self.tells(all_between(as_lists(tree)), found)

    def test_one_place_and_two(self):
        self.tells(all_between(()), ())
        self.tells(all_between([]), ())
        self.tells(all_between([[0, 1, [5, 12]]]), ((0, 1, (5, 12)),))

    def test_of_all_two_places(self):
        source = numbers(67)
        for tree in [made_tree(many, source) for many in (2, 3, 7, 40)] + [TREE, ALIKE]:
            many = len(tree) + 1
            pairs = [(i, j) for i in range(many) for j in range(i + 1, many)]
            self.tells(all_between(tree), tuple((i, j, least_between(tree, i, j)[0]) for i, j in pairs))

    def test_of_a_cut_tree(self):
        web = whole(4, [(0, 1, 3), (0, 2, 1), (1, 2, 2), (2, 3, 2)])
        tree = rows([(0, 1, 4), (1, 2, 3), (2, 3, 2)])
        tree_paper(web, tree)
        told = {(i, j): fraction(much) for i, j, much in all_between(tree)}
        for (i, j), much in told.items():
            self.assertEqual(amount(much), amount(cut_of(web, i, j)))
            self.assertLessEqual(much, min(weight_of(web, (i,)), weight_of(web, (j,))))
        for i, j, k in ((0, 1, 2), (0, 1, 3), (0, 2, 3), (1, 2, 3)):
            three = sorted((told[i, j], told[i, k], told[j, k]))
            self.assertEqual(three[0], three[1])

    def test_no_ties(self):
        tree = tuple((k, k + 1, (0, 1)) for k in range(39))
        self.assertEqual({much for i, j, much in all_between(tree)}, {(0, 1)})
        self.assertEqual(len(all_between(tree)), 780)
        tree_paper(Web(40, ()), tree)

    def test_refused(self):
        for thing in ODD + (0, "x", tuple((k, k + 1, (1, 1)) for k in range(40))):
            self.refuses(NoTree, all_between, thing)
        for name, tree in NO_TREES.items():
            if name != "a row out":
                self.refuses(NoTree, all_between, tree)

    def test_nothing_handed_in_is_changed(self):
        tree = as_lists(TREE)
        all_between(tree), least_between(tree, 0, 5)
        self.assertEqual(tree, as_lists(TREE))

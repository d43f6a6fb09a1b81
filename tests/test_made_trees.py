"""[18]: cut trees made by drawing together, and without."""

from cutstree.between import all_between
from cutstree.cuttrees import is_cut_tree, tree_paper
from cutstree.drawn import drawn_tree
from cutstree.plain import plain_tree
from cutstree.trees import is_tree
from cutstree.webs import Web
from tests.seeking import amount, cut_of, fraction, is_cut_tree_of
from tests.shapes import GREAT, SOME, full, great_webs, in_pieces, made_webs, necklace, path, ring, rows, small_webs
from tests.shapes import star, whole
from tests.things import Case

CALLS = (drawn_tree, plain_tree)


class Made(Case):
    def made(self, web):
        """Both trees, looked at."""
        told = [call(web) for call in CALLS]
        for call, (tree, asked) in zip(CALLS, told):
            self.tells(asked, web.many - 1)
            self.tells(call(web), (tree, asked))
            self.assertIs(is_tree(web.many, tree), True)
            self.assertIs(is_cut_tree(web, tree, tree_paper(web, tree)), True, web.ties)
        amounts = [sorted(fraction(much) for i, j, much in tree) for tree, asked in told]
        self.assertEqual(amounts[0], amounts[1])
        return [tree for tree, asked in told]

    def test_one_place_and_two(self):
        for call in CALLS:
            self.tells(call(Web(1, ())), ((), 0))
            self.tells(call(Web(2, ())), (((0, 1, (0, 1)),), 1))
            self.tells(call(Web(2, [(0, 1, (5, 12))])), (((0, 1, (5, 12)),), 1))

    def test_where_there_is_one_cut_tree_alone(self):
        # Of a path, or a star, whose weights are all unlike, the ties themselves are the one cut tree.
        for web in (path(6, ((5, 1), (2, 1), (7, 1), (3, 1), (1, 1))), star(5, ((4, 1), (1, 3), (2, 1), (5, 2)), 3)):
            for call in CALLS:
                self.tells(call(web), (web.ties, web.many - 1))

    def test_by_hand(self):
        web = whole(4, [(0, 1, 3), (0, 2, 1), (1, 2, 2), (2, 3, 2)])
        for call in CALLS:
            self.tells(call(web), (rows([(0, 1, 4), (1, 2, 3), (2, 3, 2)]), 3))

    def test_by_all_sides(self):
        for web in small_webs() + list(made_webs(73, (2, 3, 4, 5, 6), 8)):
            for tree in self.made(web):
                self.assertTrue(is_cut_tree_of(web, tree), (web.ties, tree))
                for i, j, much in all_between(tree):
                    self.assertEqual(much, amount(cut_of(web, i, j)))

    def test_of_many_kinds(self):
        for web in great_webs() + list(made_webs(79, (7, 8, 11, 16), 5)):
            self.made(web)

    def test_many_sides_of_one_weight(self):
        for web in (ring(9), full(7), necklace(16), Web(9, ()), in_pieces(10, ((1, 1),)), path(12)):
            self.made(web)

    def test_amounts_above_every_weight(self):
        web = full(6, ((10 ** 12, 1),))
        for tree in self.made(web):
            self.assertEqual({much for i, j, much in tree}, {(5 * 10 ** 12, 1)})
        self.made(full(9, GREAT))

    def test_what_all_cut_trees_have(self):
        for web in (full(8, SOME), necklace(12)):
            for tree in self.made(web):
                told = {(i, j): fraction(much) for i, j, much in all_between(tree)}
                for i, j, k in [(i, j, k) for i in range(8) for j in range(i + 1, 8) for k in range(j + 1, 8)]:
                    three = sorted((told[i, j], told[i, k], told[j, k]))
                    self.assertEqual(three[0], three[1])

    def test_the_web_is_not_changed(self):
        web = full(6, SOME)
        ties = web.ties
        self.made(web)
        self.assertEqual(web.ties, ties)

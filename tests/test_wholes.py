"""[19], [20]: the least cut of all, and its paper."""

from cutstree.drawn import drawn_tree
from cutstree.errors import NoTree, OnePlace
from cutstree.flows import flow_worth
from cutstree.plain import plain_tree
from cutstree.shortest import shortest_flow
from cutstree.sides import others, side_weight
from cutstree.webs import Web
from cutstree.wholes import is_least_of_all, least_by_tree, least_of_all, whole_paper
from tests.seeking import all_sides, amount, least_of_sides, weight_of
from tests.shapes import full, great_webs, in_pieces, made_webs, ring, rows, small_webs, thick_halves, whole
from tests.test_between import ALIKE
from tests.test_trees import NO_TREES, TREE
from tests.things import ODD, Case, as_lists, is_told

# 0, 1 and 2 are tied thickly, 3 and 4 too; 2 between the two, and one more tie from 0 to 4.
WEB = whole(5, [(0, 1, 4), (0, 2, 3), (0, 4, 1), (1, 2, 5), (2, 3, 2), (3, 4, 6)])
FLOWS = (
    rows([(0, 1, 4), (0, 2, 3), (0, 4, 1), (2, 1, 4), (3, 2, 1), (4, 3, 1)]),
    rows([(0, 1, 4), (0, 2, 3), (0, 4, 1), (1, 2, 4), (3, 2, 1), (4, 3, 1)]),
    rows([(0, 2, 2), (0, 4, 1), (2, 3, 2), (4, 3, 1)]),
    rows([(0, 2, 2), (0, 4, 1), (2, 3, 2), (3, 4, 2)]),
)
SIDE = (3, 4)


def replaced(row, at, thing):
    return row[:at] + (thing,) + row[at + 1:]


class ByTree(Case):
    def test_by_hand(self):
        self.tells(least_by_tree(TREE), ((0, 1), (3, 4, 5)))
        self.tells(least_by_tree(as_lists(TREE)), ((0, 1), (3, 4, 5)))
        self.tells(least_by_tree(((0, 1, (5, 12)),)), ((5, 12), (1,)))
        self.tells(least_by_tree(((0, 1, (2, 3)), (1, 2, (3, 5)), (2, 3, (5, 8)))), ((3, 5), (2, 3)))

    def test_the_first_of_several(self):
        self.tells(least_by_tree(ALIKE), ((1, 1), (2, 3, 4, 5)))
        self.tells(least_by_tree(rows([(0, 2, 1), (1, 2, 1)])), ((1, 1), (1, 2)))
        self.tells(least_by_tree(rows([(0, 3, 2), (1, 2, 1), (2, 3, 1)])), ((1, 1), (1,)))

    def test_one_place(self):
        self.refuses(OnePlace, least_by_tree, ())
        self.refuses(OnePlace, least_by_tree, [])

    def test_no_tree_ahead_of_one_place(self):
        for thing in ODD + (0, "x", tuple((k, k + 1, (1, 1)) for k in range(40))):
            self.refuses(NoTree, least_by_tree, thing)
        for name, tree in NO_TREES.items():
            if name != "a row out":
                self.refuses(NoTree, least_by_tree, tree)


class OfAll(Case):
    def test_by_hand(self):
        self.tells(least_of_all(WEB), ((3, 1), SIDE))
        self.tells(least_of_all(Web(2, [(0, 1, (5, 12))])), ((5, 12), (1,)))
        self.tells(least_of_all(Web(2, ())), ((0, 1), (1,)))
        self.tells(least_of_all(whole(3, [(0, 1, 1), (0, 2, 2), (1, 2, 9)])), ((3, 1), (1, 2)))
        self.tells(least_of_all(thick_halves(40)), ((1, 16), tuple(range(20, 40))))

    def test_by_all_sides(self):
        for web in small_webs() + list(made_webs(83, (2, 3, 4, 5, 6, 7), 10)):
            weight, side = least_of_all(web)
            self.tells(weight, amount(least_of_sides(web)))
            self.assertEqual(weight_of(web, side), least_of_sides(web))
            self.assertTrue(is_told(side) and side in set(all_sides(web.many)) and 0 not in side)
            self.assertEqual(least_of_all(web), (weight, side))

    def test_both_alike_of_a_cut_tree(self):
        for web in small_webs() + great_webs() + list(made_webs(89, (9, 12), 5)):
            weight, side = least_of_all(web)
            self.assertEqual(side_weight(web, side), weight)
            self.assertNotIn(0, side)
            for call in (drawn_tree, plain_tree):
                told = least_by_tree(call(web)[0])
                self.assertEqual(told[0], weight)
                self.assertEqual(side_weight(web, told[1]), weight)
                self.assertNotIn(0, told[1])

    def test_in_several_pieces(self):
        for web in (in_pieces(9), in_pieces(40), Web(40, ()), whole(4, [(0, 3, 1), (1, 2, 1)])):
            weight, side = least_of_all(web)
            self.assertEqual((weight, side_weight(web, side)), ((0, 1), (0, 1)))
            self.assertNotIn(0, side)

    def test_above_every_weight(self):
        self.assertEqual(least_of_all(full(40, ((10 ** 12, 1),)))[0], (39 * 10 ** 12, 1))

    def test_one_place(self):
        self.refuses(OnePlace, least_of_all, Web(1, ()))
        self.refuses(OnePlace, whole_paper, Web(1, ()))


class Checked(Case):
    def test_right_papers(self):
        for side in (SIDE, list(SIDE), others(WEB, SIDE)):
            for flows in (FLOWS, list(FLOWS), as_lists(FLOWS)):
                self.assertIs(is_least_of_all(WEB, (side, flows)), True)
                self.assertIs(is_least_of_all(WEB, [side, flows]), True)

    def test_flows_of_just_that_worth(self):
        just = tuple(rows([(0, k, 2)]) if k in (1, 3) else rows([(0, 1, 1), (0, 3, 1), (1, 2, 1), (3, 2, 1)])
                     for k in (1, 2, 3))
        web = whole(4, [(0, 1, 2), (0, 3, 2), (1, 2, 1), (2, 3, 1)])
        self.assertIs(is_least_of_all(web, ((2,), just)), True)
        less = (((0, 1, (55439, 55440)),),) + just[1:]
        self.assertIs(is_least_of_all(web, ((2,), less)), False)

    def test_the_side_bent(self):
        for side in all_sides(5):
            self.assertIs(is_least_of_all(WEB, (side, FLOWS)), side in (SIDE, (0, 1, 2)))
        for side in ((), (0, 1, 2, 3, 4), (4, 3), (3, 3, 4), (3, 5), (3, True), 3, None, FLOWS, "34"):
            self.assertIs(is_least_of_all(WEB, (side, FLOWS)), False)

    def test_a_flow_bent(self):
        for k in range(4):
            for flow in ((), FLOWS[k][:-1], FLOWS[k][::-1], FLOWS[k] + FLOWS[k][:1], None, FLOWS,
                         tuple(sorted((j, i, much) for i, j, much in FLOWS[k]))):
                self.assertIs(is_least_of_all(WEB, (SIDE, replaced(FLOWS, k, flow))), False)
        for flow in (FLOWS[1], FLOWS[2]):
            self.assertIs(is_least_of_all(WEB, (SIDE, replaced(FLOWS, 0, flow))), False)

    def test_the_flows_bent(self):
        for flows in ((), FLOWS[:3], FLOWS[1:], FLOWS[::-1], FLOWS + ((),), FLOWS + FLOWS[3:], dict(enumerate(FLOWS))):
            self.assertIs(is_least_of_all(WEB, (SIDE, flows)), False)

    def test_the_paper_bent(self):
        for paper in ((SIDE,), (FLOWS, SIDE), (SIDE, FLOWS, ()), (), SIDE, FLOWS, {0: SIDE, 1: FLOWS}):
            self.assertIs(is_least_of_all(WEB, paper), False)

    def test_flows_that_are_not_greatest_may_do(self):
        flow = rows([(0, 1, 3)])
        self.assertEqual(flow_worth(WEB, (0,), (1,), flow), (3, 1))
        self.assertIs(is_least_of_all(WEB, (SIDE, replaced(FLOWS, 0, flow))), True)

    def test_one_place(self):
        for paper in ODD + (((), ()), ((0,), ()), ((0,), ((),)), [[], []]):
            self.assertIs(is_least_of_all(Web(1, ()), paper), False)

    def test_things_of_any_kind(self):
        for thing in ODD + (0, "x", (), ((), ())):
            self.assertIs(is_least_of_all(WEB, thing), False)
            self.assertIs(is_least_of_all(WEB, (thing, FLOWS)), False)
            self.assertIs(is_least_of_all(WEB, (SIDE, thing)), False)
            for k in range(4):
                self.assertIs(is_least_of_all(WEB, (SIDE, replaced(FLOWS, k, thing))), False)

    def test_where_it_is_true_no_side_weighs_less(self):
        for web in small_webs()[::3]:
            least = least_of_sides(web)
            flows = [shortest_flow(web, (0,), (k,))[0] for k in range(1, web.many)]
            for side in all_sides(web.many):
                self.assertIs(is_least_of_all(web, (side, flows)), weight_of(web, side) == least)

    def test_nothing_handed_in_is_changed(self):
        paper, tree = [list(SIDE), as_lists(FLOWS)], as_lists(TREE)
        is_least_of_all(WEB, paper), least_by_tree(tree)
        self.assertEqual((paper, tree), ([list(SIDE), as_lists(FLOWS)], as_lists(TREE)))


class Papers(Case):
    def test_let_by(self):
        for web in small_webs() + great_webs() + [ring(40), full(12)] + list(made_webs(97, (2, 5, 9), 5)):
            paper = whole_paper(web)
            self.assertTrue(is_told(paper))
            self.assertIs(is_least_of_all(web, paper), True)
            self.assertNotIn(0, paper[0])
            self.assertEqual(whole_paper(web), paper)

    def test_by_hand(self):
        self.tells(whole_paper(Web(2, [(0, 1, (5, 12))])), ((1,), (((0, 1, (5, 12)),),)))
        self.tells(whole_paper(Web(3, ()))[1], ((), ()))

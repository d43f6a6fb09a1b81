"""[10]: papers of cuts."""

from cutstree.cuts import is_least_cut
from cutstree.errors import NoPlace
from cutstree.shortest import shortest_flow
from cutstree.sides import is_side
from cutstree.webs import Web
from tests.seeking import all_ends, all_sides, fraction, least_between_ends, sides_between, weight_of
from tests.things import ODD, Case, made_web, numbers

WEB = Web(4, [(0, 1, (3, 1)), (0, 2, (2, 1)), (1, 2, (1, 1)), (1, 3, (2, 1)), (2, 3, (1, 1))])
FLOW = ((0, 1, (2, 1)), (0, 2, (1, 1)), (1, 3, (2, 1)), (2, 3, (1, 1)))
SIDE = (0, 1, 2)


class Papers(Case):
    def lets_by(self, paper, froms=(0,), tos=(3,), web=WEB):
        return is_least_cut(web, froms, tos, paper)

    def test_the_right_paper(self):
        for paper in ((FLOW, SIDE), [FLOW, SIDE], [[list(row) for row in FLOW], list(SIDE)]):
            self.assertIs(self.lets_by(paper), True)
            self.assertIs(self.lets_by(paper, [0], [3]), True)

    def test_no_ties(self):
        self.assertIs(self.lets_by(((), (0,)), web=Web(4, ())), True)
        self.assertIs(self.lets_by(((), (0, 1)), web=Web(4, ())), True)
        self.assertIs(self.lets_by(((), (1,)), web=Web(4, ())), False)

    def test_several_ends(self):
        paper = (((0, 2, (2, 1)), (1, 2, (1, 1)), (1, 3, (2, 1))), (0, 1))
        self.assertIs(self.lets_by(paper, (0, 1), (2, 3)), True)
        self.assertIs(self.lets_by((paper[0], (0,)), (0, 1), (2, 3)), False)
        self.assertIs(self.lets_by((paper[0], (0, 1, 2)), (0, 1), (2, 3)), False)

    def test_the_flow_bent(self):
        for flow in ((), FLOW[:3], FLOW[1:], ((0, 1, (2, 1)), (1, 3, (2, 1))), FLOW[::-1],
                     ((0, 1, (3, 1)),) + FLOW[1:], FLOW[:3] + ((2, 3, (2, 2)),), FLOW + ((3, 2, (1, 1)),)):
            self.assertIs(self.lets_by((flow, SIDE)), False)

    def test_the_side_bent(self):
        for side in ((), (0,), (0, 1), (0, 2), (0, 1, 3), (3,), (0, 1, 2, 3), (0, 2, 1), (0, 1, 1, 2), (False, 1, 2)):
            self.assertIs(self.lets_by((FLOW, side)), False)

    def test_a_side_of_that_weight_not_between(self):
        self.assertIs(self.lets_by((FLOW, (3,))), False)
        self.assertIs(self.lets_by((FLOW, SIDE), (3,), (0,)), False)

    def test_the_worth_bent(self):
        half = ((0, 1, (1, 1)), (1, 3, (1, 1)))
        self.assertIs(self.lets_by((half, SIDE)), False)

    def test_the_paper_bent(self):
        for paper in ((FLOW,), (FLOW, SIDE, ()), (SIDE, FLOW), (), (FLOW, SIDE, SIDE), {0: FLOW, 1: SIDE}):
            self.assertIs(self.lets_by(paper), False)

    def test_things_of_any_kind(self):
        for thing in ODD + (0, (), [], ((), ())):
            self.assertIs(self.lets_by(thing), False)
            self.assertIs(self.lets_by((thing, SIDE)), False)
            self.assertIs(self.lets_by((FLOW, thing)), False)
            self.assertIs(self.lets_by((thing, thing)), False)

    def test_no_place_ahead_of_all(self):
        for thing in ODD + ((), (4,), (1, 0), 0, "0"):
            for paper in (None, (FLOW, SIDE), ()):
                self.refuses(NoPlace, is_least_cut, WEB, thing, (3,), paper)
                self.refuses(NoPlace, is_least_cut, WEB, (0,), thing, paper)
        self.refuses(NoPlace, is_least_cut, WEB, (0, 1), (1, 3), (FLOW, SIDE))

    def test_no_side_weighs_less_where_it_is_true(self):
        source = numbers(13)
        for many in (2, 3, 4):
            for step in range(6):
                web = made_web(many, source)
                for froms, tos in all_ends(many):
                    self.every_side(web, froms, tos)

    def every_side(self, web, froms, tos):
        flow = shortest_flow(web, froms, tos)[0]
        least = least_between_ends(web, froms, tos)
        between = set(sides_between(web, froms, tos))
        for side in all_sides(web.many):
            self.assertTrue(is_side(web, side))
            right = side in between and weight_of(web, side) == least
            self.assertIs(is_least_cut(web, froms, tos, (flow, side)), right)
            self.assertIs(is_least_cut(web, froms, tos, ((), side)), right and least == 0)

    def test_nothing_handed_in_is_changed(self):
        paper = [[list(row) for row in FLOW], list(SIDE)]
        self.assertIs(self.lets_by(paper), True)
        self.assertEqual(paper, [[list(row) for row in FLOW], list(SIDE)])
        self.assertEqual(fraction(WEB.tie(0, 1)), 3)

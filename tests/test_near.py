"""[13], [14]: near and far sides of greatest flows, and the paper of a least cut."""

from cutstree.amounts import from_parts, parts
from cutstree.cuts import is_least_cut
from cutstree.errors import NoFlow, NoPlace, NotGreatest
from cutstree.flows import flow_worth, is_flow
from cutstree.halving import halved_flow
from cutstree.near import far_side, least_cut, near_side
from cutstree.pushing import pushed_flow
from cutstree.shortest import shortest_flow
from cutstree.sides import side_weight
from cutstree.webs import Web
from tests.seeking import all_ends, least_sides_between
from tests.shapes import full, great_webs, made_webs, ring, rows, small_webs, whole
from tests.things import ODD, Case, as_lists

CALLS = (near_side, far_side)
# 0=1-2=3-4=5: three thick pairs, so there are two least sides between 0 and 5.
PAIRS = whole(6, [(0, 1, 3), (1, 2, 1), (2, 3, 3), (3, 4, 1), (4, 5, 3)])
ALONG = rows([(0, 1, 1), (1, 2, 1), (2, 3, 1), (3, 4, 1), (4, 5, 1)])


def round_upon(web, flow, places):
    """The flow, and along places, from the last one to the first again, half of what there is room for."""
    brought = {}
    for i, j, much in flow:
        brought[i, j], brought[j, i] = parts(much), -parts(much)
    steps = list(zip(places, places[1:] + places[:1]))
    much = min(parts(web.tie(i, j)) - brought.get((i, j), 0) for i, j in steps) // 2
    for i, j in steps:
        brought[i, j] = brought.get((i, j), 0) + much
        brought[j, i] = -brought[i, j]
    return tuple((i, j, from_parts(more)) for (i, j), more in sorted(brought.items()) if more > 0)


def triangles(many):
    return [(a, b, c) for a in range(many) for b in range(many) for c in range(many) if a < b and a < c and b != c]


class Sides(Case):
    def sides_are(self, web, froms, tos, flow, near, far):
        for one in (flow, as_lists(flow)):
            self.tells(near_side(web, froms, tos, one), near)
            self.tells(far_side(web, list(froms), list(tos), one), far)

    def by_all_sides(self, web, froms, tos, flows):
        least = [set(side) for side in least_sides_between(web, froms, tos)]
        near, far = tuple(sorted(set.intersection(*least))), tuple(sorted(set.union(*least)))
        for flow in flows:
            self.sides_are(web, froms, tos, flow, near, far)

    def test_by_hand(self):
        self.sides_are(PAIRS, (0,), (5,), ALONG, (0, 1), (0, 1, 2, 3))
        back = rows([(1, 0, 1), (2, 1, 1), (3, 2, 1), (4, 3, 1), (5, 4, 1)])
        self.sides_are(PAIRS, (5,), (0,), back, (4, 5), (2, 3, 4, 5))
        self.sides_are(PAIRS, (0,), (1,), rows([(0, 1, 3)]), (0,), (0,))
        self.sides_are(PAIRS, (2,), (3,), rows([(2, 3, 3)]), (0, 1, 2), (0, 1, 2))

    def test_no_ties(self):
        self.sides_are(Web(4, ()), (1,), (2,), (), (1,), (0, 1, 3))
        self.sides_are(Web(2, ()), (1,), (0,), (), (1,), (1,))

    def test_several_ends(self):
        self.sides_are(PAIRS, (0, 2), (5,), rows([(2, 3, 1), (3, 4, 1), (4, 5, 1)]), (0, 1, 2, 3), (0, 1, 2, 3))
        flow = rows([(0, 1, 1), (1, 2, 1), (4, 3, 1), (5, 4, 1)])
        self.sides_are(PAIRS, (0, 5), (2, 3), flow, (0, 1, 4, 5), (0, 1, 4, 5))
        self.sides_are(Web(4, ()), (0, 3), (1, 2), (), (0, 3), (0, 3))

    def test_by_all_sides(self):
        for web in small_webs() + list(made_webs(7, (2, 3, 4), 6)):
            for froms, tos in list(all_ends(web.many))[::1 if web.many < 5 else 11]:
                flows = (shortest_flow(web, froms, tos)[0], halved_flow(web, froms, tos)[0], pushed_flow(web, froms, tos))
                self.by_all_sides(web, froms, tos, flows)

    def test_with_something_that_goes_round(self):
        bent = 0
        for web in [full(4), full(5, ((1, 1), (3, 2), (2, 1)))] + list(made_webs(11, (3, 4, 5), 3)):
            for froms, tos in list(all_ends(web.many))[::3]:
                flow = shortest_flow(web, froms, tos)[0]
                flows = {round_upon(web, flow, places) for places in triangles(web.many)} - {flow}
                for one in flows:
                    self.assertIs(is_flow(web, froms, tos, one), True)
                bent += len(flows)
                self.by_all_sides(web, froms, tos, flows)
        self.assertGreater(bent, 100)

    def test_of_the_flow_s_worth(self):
        for web in great_webs():
            froms, tos = (0, 1), (web.many - 2, web.many - 1)
            flow = shortest_flow(web, froms, tos)[0]
            for call in CALLS:
                side = call(web, froms, tos, flow)
                self.assertEqual(side_weight(web, side), flow_worth(web, froms, tos, flow))
                self.assertEqual(side, call(web, froms, tos, pushed_flow(web, froms, tos)))
                self.assertIs(is_least_cut(web, froms, tos, (flow, side)), True)

    def test_nothing_handed_in_is_changed(self):
        froms, tos, flow = [0], [5], as_lists(ALONG)
        for call in CALLS:
            call(PAIRS, froms, tos, flow)
        self.assertEqual((froms, tos, flow), ([0], [5], as_lists(ALONG)))


class Refused(Case):
    def test_not_greatest(self):
        half = tuple((i, j, (1, 2)) for i, j, much in ALONG)
        nearly = tuple((i, j, (55439, 55440)) for i, j, much in ALONG)
        for call in CALLS:
            for flow in ((), [], half, nearly):
                self.refuses(NotGreatest, call, PAIRS, (0,), (5,), flow)
            self.refuses(NotGreatest, call, ring(4), (0,), (2,), rows([(0, 1, 1), (1, 2, 1)]))
            self.refuses(NotGreatest, call, full(4), (0, 1), (2,), rows([(0, 2, 1)]))
            self.refuses(NotGreatest, call, full(4), (0,), (1,), rows([(1, 2, 1), (2, 3, 1), (3, 1, 1)]))

    def test_a_way_through_what_is_taken_back(self):
        # 0-1-2-3 is brought; 0-2-1-3 still has room, from 2 to 1 by what is taken back.
        web = whole(4, [(0, 1, 1), (0, 2, 1), (1, 2, 1), (1, 3, 1), (2, 3, 1)])
        for call in CALLS:
            self.refuses(NotGreatest, call, web, (0,), (3,), rows([(0, 1, 1), (1, 2, 1), (2, 3, 1)]))
            self.assertIn(0, call(web, (0,), (3,), rows([(0, 1, 1), (0, 2, 1), (1, 3, 1), (2, 3, 1)])))

    def test_no_flow(self):
        double = tuple((i, j, (2, 1)) for i, j, much in ALONG)
        for call in CALLS:
            for flow in ODD + (ALONG[:4], ALONG[1:], ALONG[::-1], double, ALONG + ((5, 4, (1, 1)),), 0, "flow"):
                self.refuses(NoFlow, call, PAIRS, (0,), (5,), flow)
            self.refuses(NoFlow, call, PAIRS, (5,), (0,), ALONG)
            self.refuses(NoFlow, call, PAIRS, (0,), (4,), ALONG)

    def test_no_flow_ahead_of_not_greatest(self):
        for call in CALLS:
            self.refuses(NoFlow, call, PAIRS, (0,), (5,), rows([(0, 1, 1)]))
            self.refuses(NoFlow, call, PAIRS, (0,), (5,), None)

    def test_no_place_ahead_of_all(self):
        for thing in ODD + ((), (6,), (1, 0), (2, 2), 0, "0", {0: 0}):
            for flow in ((), None, ALONG, [None], {}, thing):
                for call in CALLS:
                    self.refuses(NoPlace, call, PAIRS, thing, (5,), flow)
                    self.refuses(NoPlace, call, PAIRS, (0,), thing, flow)
            self.refuses(NoPlace, least_cut, PAIRS, thing, (5,))
            self.refuses(NoPlace, least_cut, PAIRS, (0,), thing)
        for call in CALLS:
            self.refuses(NoPlace, call, PAIRS, (0, 1), (1, 5), ALONG)
        self.refuses(NoPlace, least_cut, PAIRS, (0, 1), (1, 5))


class Papers(Case):
    def test_by_hand(self):
        self.tells(least_cut(PAIRS, (0,), (5,)), (ALONG, (0, 1)))
        self.tells(least_cut(PAIRS, [4], [5]), (rows([(4, 5, 3)]), (0, 1, 2, 3, 4)))
        self.tells(least_cut(Web(3, ()), (1,), (2,)), ((), (1,)))

    def test_let_by(self):
        for web in small_webs() + great_webs():
            last = web.many - 1
            for froms, tos in (((0,), (last,)), ((last,), (0,)), (tuple(range(last)), (last,))):
                flow, side = least_cut(web, froms, tos)
                self.assertIs(is_least_cut(web, froms, tos, (flow, side)), True)
                self.tells(flow, shortest_flow(web, froms, tos)[0])
                self.tells(side, near_side(web, froms, tos, flow))
                self.assertEqual(least_cut(web, list(froms), list(tos)), (flow, side))

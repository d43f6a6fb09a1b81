"""[11], [12]: greatest flows by the shortest ways, and by wide ways first."""

from cutstree.errors import NoPlace
from cutstree.flows import flow_worth, is_flow
from cutstree.halving import halved_flow
from cutstree.shortest import shortest_flow
from cutstree.webs import Web
from tests.seeking import all_ends, amount, flow_by_ways, halved_bounds, least_between_ends
from tests.shapes import rows, whole
from tests.things import ODD, Case, made_web, numbers

CALLS = (shortest_flow, halved_flow)


class Both(Case):
    def test_no_ties(self):
        for call in CALLS:
            self.tells(call(Web(2, ()), (0,), (1,)), ((), 0))
            self.tells(call(Web(40, ()), [0, 3], [39]), ((), 0))

    def test_in_two_pieces(self):
        web = whole(4, [(0, 1, 5), (2, 3, 7)])
        for call in CALLS:
            self.tells(call(web, (0,), (3,)), ((), 0))
            self.tells(call(web, (0, 2), (3,)), (rows([(2, 3, 7)]), 1))

    def test_one_tie(self):
        for weight in ((1, 1), (1, 55440), (10 ** 12, 1), (5, 12), (10 ** 12 - 1, 16)):
            web = Web(2, [(0, 1, weight)])
            for call in CALLS:
                self.tells(call(web, (0,), (1,)), (((0, 1, weight),), 1))
                self.tells(call(web, [1], [0]), (((1, 0, weight),), 1))

    def test_ties_within_an_end_bring_nothing(self):
        web = whole(4, [(0, 1, 9), (0, 2, 1), (1, 3, 2), (2, 3, 9)])
        for call in CALLS:
            self.tells(call(web, (0, 1), (2, 3)), (rows([(0, 2, 1), (1, 3, 2)]), 2))

    def test_no_place(self):
        web = whole(3, [(0, 1, 1), (1, 2, 1)])
        for thing in ODD + ((), [], (3,), (1, 0), (0, 0), 0, 1, "0", {0: 0}):
            for call in CALLS:
                self.refuses(NoPlace, call, web, thing, (2,))
                self.refuses(NoPlace, call, web, (2,), thing)
        for call in CALLS:
            self.refuses(NoPlace, call, web, (0, 1), (1, 2))
            self.refuses(NoPlace, call, Web(1, ()), (0,), (0,))

    def test_nothing_handed_in_is_changed(self):
        web = whole(4, [(0, 1, 3), (0, 2, 2), (1, 2, 1), (1, 3, 2), (2, 3, 3)])
        ties = web.ties
        for call in CALLS:
            froms, tos = [0], [3]
            self.assertEqual(call(web, froms, tos), call(web, (0,), (3,)))
            self.assertEqual((froms, tos, web.ties), ([0], [3], ties))

    def test_greatest_on_every_small_web(self):
        source = numbers(17)
        for many in (2, 3, 4, 5):
            for step in range(4):
                web = made_web(many, source)
                for froms, tos in all_ends(many):
                    least = amount(least_between_ends(web, froms, tos))
                    for call in CALLS:
                        flow, ways = call(web, froms, tos)
                        self.assertIs(is_flow(web, froms, tos, flow), True)
                        self.tells(flow_worth(web, froms, tos, flow), least)

    def test_greatest_on_webs_of_forty(self):
        source = numbers(19)
        for every in (1, 2, 4):
            web = made_web(40, source, every=every)
            for froms, tos in (((0,), (39,)), ((0, 5, 7), (20, 21)), (tuple(range(20)), tuple(range(20, 40)))):
                worths = [flow_worth(web, froms, tos, call(web, froms, tos)[0]) for call in CALLS]
                self.assertEqual(worths[0], worths[1])


class Shortest(Case):
    def test_ways_side_by_side(self):
        # 0-1-3 brings 2, 0-2-3 brings 2, 0-1-2-3 brings 1.
        web = whole(4, [(0, 1, 3), (0, 2, 2), (1, 2, 1), (1, 3, 2), (2, 3, 3)])
        flow = rows([(0, 1, 3), (0, 2, 2), (1, 2, 1), (1, 3, 2), (2, 3, 3)])
        self.tells(shortest_flow(web, (0,), (3,)), (flow, 3))

    def test_the_first_in_order_of_several(self):
        # 0-1-3-5 stands ahead of 0-1-4-5 and 0-2-3-5; behind it 0-2-3-1-4-5 takes back what it brought from 1 to 3.
        web = whole(6, [(0, 1, 1), (0, 2, 1), (1, 3, 1), (1, 4, 1), (2, 3, 1), (3, 5, 1), (4, 5, 1)])
        flow = rows([(0, 1, 1), (0, 2, 1), (1, 4, 1), (2, 3, 1), (3, 5, 1), (4, 5, 1)])
        self.tells(shortest_flow(web, (0,), (5,)), (flow, 2))

    def test_the_first_of_ways_that_take_one_another_s_place(self):
        # 0-1-3 and 0-2-3 have one tie to 4 behind them: the first one takes it all.
        web = whole(5, [(0, 1, 2), (0, 2, 2), (1, 3, 2), (2, 3, 2), (3, 4, 2)])
        self.tells(shortest_flow(web, (0,), (4,)), (rows([(0, 1, 2), (1, 3, 2), (3, 4, 2)]), 1))
        # From 4 the same: 4-3-1-0 stands ahead of 4-3-2-0.
        self.tells(shortest_flow(web, (4,), (0,)), (rows([(1, 0, 2), (3, 1, 2), (4, 3, 2)]), 1))

    def test_fewest_places_ahead_of_order(self):
        # 0-3-4 stands ahead of 0-1-2-4 though it is later in order, and fills 0-3 and 3-4.
        web = whole(5, [(0, 1, 1), (1, 2, 1), (2, 4, 1), (0, 3, 1), (3, 4, 1)])
        flow = rows([(0, 1, 1), (0, 3, 1), (1, 2, 1), (2, 4, 1), (3, 4, 1)])
        self.tells(shortest_flow(web, (0,), (4,)), (flow, 2))

    def test_what_was_brought_is_taken_back(self):
        # 0-1-2-5 is first; 0-3-4-2-1-6-7-5 takes it back between 1 and 2.
        ties = [(0, 1, 1), (1, 2, 1), (2, 5, 1), (0, 3, 1), (3, 4, 1), (2, 4, 1), (1, 6, 1), (6, 7, 1), (5, 7, 1)]
        flow = rows([(0, 1, 1), (0, 3, 1), (1, 6, 1), (2, 5, 1), (3, 4, 1), (4, 2, 1), (6, 7, 1), (7, 5, 1)])
        self.tells(shortest_flow(whole(8, ties), (0,), (5,)), (flow, 2))

    def test_more_than_was_brought_goes_back(self):
        # 0-1-2-5 brings 1; 0-3-4-2-1-6-7-5 brings 2: 1 is taken back between 1 and 2, 1 more brought from 2 to 1.
        ties = [(0, 1, 1), (1, 2, 1), (2, 5, 1), (0, 3, 2), (3, 4, 2), (2, 4, 2), (1, 6, 2), (6, 7, 2), (5, 7, 2)]
        flow = rows([(0, 1, 1), (0, 3, 2), (1, 6, 2), (2, 1, 1), (2, 5, 1), (3, 4, 2), (4, 2, 2), (6, 7, 2), (7, 5, 2)])
        self.tells(shortest_flow(whole(8, ties), (0,), (5,)), (flow, 2))

    def test_several_froms_and_tos(self):
        # 0-3 and 1-4 are the shortest, then 1-2-3; what ties 0 to 1 and 3 to 4 brings nothing.
        web = whole(5, [(0, 1, 5), (0, 3, 2), (1, 2, 3), (1, 4, 1), (2, 3, 2), (3, 4, 5)])
        flow = rows([(0, 3, 2), (1, 2, 2), (1, 4, 1), (2, 3, 2)])
        self.tells(shortest_flow(web, (0, 1), (3, 4)), (flow, 3))

    def test_the_least_from_goes_first(self):
        # 0-2-3 and 1-2-3 are as short: what 2-3 can bear comes from 0.
        web = whole(4, [(0, 2, 2), (1, 2, 2), (2, 3, 3)])
        self.tells(shortest_flow(web, (0, 1), (3,)), (rows([(0, 2, 2), (1, 2, 1), (2, 3, 3)]), 2))
        self.tells(shortest_flow(web, (3,), (0, 1)), (rows([(2, 0, 2), (2, 1, 1), (3, 2, 3)]), 2))

    def test_in_least_terms(self):
        web = Web(3, [(0, 1, (5, 6)), (0, 2, (1, 3)), (1, 2, (1, 2))])
        self.tells(shortest_flow(web, (0,), (2,)), (((0, 1, (1, 2)), (0, 2, (1, 3)), (1, 2, (1, 2))), 2))
        web = Web(4, [(0, 1, (5, 6)), (1, 2, (1, 2)), (1, 3, (1, 6)), (2, 3, (1, 2))])
        self.tells(shortest_flow(web, (0,), (3,))[0][0], (0, 1, (2, 3)))

    def test_against_all_ways(self):
        source = numbers(23)
        small = ((1, 1), (2, 1), (3, 1))
        for many in (2, 3, 4, 5):
            for step in range(6):
                web = made_web(many, source, weights=small if step % 2 else ((1, 2), (1, 3), (5, 1)), every=2 + step % 3)
                for froms, tos in all_ends(many):
                    self.tells(shortest_flow(web, froms, tos), flow_by_ways(web, froms, tos, [0]))

    def test_against_all_ways_of_greater_webs(self):
        source = numbers(29)
        for step in range(25):
            web = made_web(7, source, weights=((1, 1), (2, 1), (3, 2)), every=2)
            for froms, tos in (((0,), (6,)), ((6,), (0,)), ((2, 4), (1, 5))):
                self.tells(shortest_flow(web, froms, tos), flow_by_ways(web, froms, tos, [0]))


class Halved(Case):
    def test_one_wide_way(self):
        # In 55,440ths: 2 on 0-2-1-3, where 0-2-3 is shorter but has 1 alone. The bound 2 goes first.
        web = Web(4, [(0, 2, (1, 27720)), (1, 2, (1, 27720)), (1, 3, (1, 27720)), (2, 3, (1, 55440))])
        flow = ((0, 2, (1, 27720)), (1, 3, (1, 27720)), (2, 1, (1, 27720)))
        self.tells(halved_flow(web, (0,), (3,)), (flow, 1))
        self.assertEqual(shortest_flow(web, (0,), (3,))[1], 2)

    def test_bounds_by_hand(self):
        # In 55,440ths: 5 on 0-2, 4 on 1-2 and 1-3, 2 on 2-3. The bound 4 takes 0-2-1-3 with 4, 2 none, 1 0-2-3 with 1.
        web = Web(4, [(0, 2, (1, 11088)), (1, 2, (1, 13860)), (1, 3, (1, 13860)), (2, 3, (1, 27720))])
        flow = ((0, 2, (1, 11088)), (1, 3, (1, 13860)), (2, 1, (1, 13860)), (2, 3, (1, 55440)))
        self.tells(halved_flow(web, (0,), (3,)), (flow, 2))

    def test_the_first_bound_is_one_of_55440ths(self):
        # 1 is 55,440 parts, so the bound is 32,768; 3/5 are 33,264 parts, so the shorter way goes first.
        web = Web(4, [(0, 2, (1, 1)), (1, 2, (1, 1)), (1, 3, (1, 1)), (2, 3, (3, 5))])
        flow = ((0, 2, (1, 1)), (1, 3, (2, 5)), (2, 1, (2, 5)), (2, 3, (3, 5)))
        self.tells(halved_flow(web, (0,), (3,)), (flow, 2))
        # 4/7 are 31,680 parts: the longer way alone is wide enough.
        web = Web(4, [(0, 2, (1, 1)), (1, 2, (1, 1)), (1, 3, (1, 1)), (2, 3, (4, 7))])
        self.tells(halved_flow(web, (0,), (3,)), (((0, 2, (1, 1)), (1, 3, (1, 1)), (2, 1, (1, 1))), 1))

    def test_the_greatest_tie_counts_wherever_it_is(self):
        # The bound begins far above all rooms of a way, by the tie 0-4; at 2 it takes 0-2-1-3.
        web = Web(5, [(0, 2, (1, 27720)), (1, 2, (1, 27720)), (1, 3, (1, 27720)), (2, 3, (1, 55440)), (0, 4, (9, 1))])
        self.assertEqual(halved_flow(web, (0,), (3,))[1], 1)

    def test_a_bound_is_kept_as_long_as_there_is_a_way(self):
        # All three ways are of rooms 4 and more, in 55,440ths; the shorter ones are taken first.
        web = Web(4, [(0, 1, (1, 6930)), (0, 2, (1, 13860)), (1, 2, (1, 13860)), (1, 3, (1, 13860)), (2, 3, (1, 6930))])
        flow = ((0, 1, (1, 6930)), (0, 2, (1, 13860)), (1, 2, (1, 13860)), (1, 3, (1, 13860)), (2, 3, (1, 6930)))
        self.tells(halved_flow(web, (0,), (3,)), (flow, 3))

    def test_several_froms_and_tos(self):
        web = whole(5, [(0, 1, 5), (0, 3, 2), (1, 2, 3), (1, 4, 1), (2, 3, 2), (3, 4, 5)])
        flow = rows([(0, 3, 2), (1, 2, 2), (1, 4, 1), (2, 3, 2)])
        self.tells(halved_flow(web, (0, 1), (3, 4)), (flow, 3))

    def test_against_all_ways(self):
        source = numbers(31)
        some = ((1, 1), (3, 5), (4, 7), (1, 2), (1, 55440), (13, 55440), (10 ** 12, 1), (1, 3))
        for many in (2, 3, 4, 5):
            for step in range(4):
                web = made_web(many, source, weights=some, every=2 + step)
                for froms, tos in all_ends(many):
                    found = flow_by_ways(web, froms, tos, halved_bounds(web))
                    self.tells(halved_flow(web, froms, tos), found)

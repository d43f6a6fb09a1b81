"""[12]: greatest flows by pushing."""

from cutstree.errors import NoPlace
from cutstree.flows import flow_worth, is_flow
from cutstree.halving import halved_flow
from cutstree.pushing import pushed_flow
from cutstree.shortest import shortest_flow
from cutstree.webs import Web
from tests.seeking import all_ends, amount, least_between_ends
from tests.shapes import great_webs, in_pieces, made_webs, rows, small_webs, whole
from tests.things import ODD, Case, is_told


def ends_of(many):
    """Ends of one to three places each, of a web of many places."""
    yield (0,), (many - 1,)
    yield (many - 1,), (0,)
    if many > 6:
        yield (1,), (many // 2,)
        yield (0, 3), (many - 2,)
        yield (2,), (0, many - 1)
        yield (0, 1, 2), (many // 2, many - 2, many - 1)
        yield (1, many // 2, many - 1), (0, 2, many // 2 + 1)


class Pushed(Case):
    def is_right(self, web, froms, tos):
        flow = pushed_flow(web, froms, tos)
        self.assertTrue(is_told(flow))
        self.assertIs(is_flow(web, froms, tos, flow), True, (web.ties, froms, tos))
        self.assertEqual(pushed_flow(web, froms, tos), flow)
        self.assertEqual(pushed_flow(web, list(froms), list(tos)), flow)
        return flow_worth(web, froms, tos, flow)

    def test_no_ties(self):
        self.tells(pushed_flow(Web(2, ()), (0,), (1,)), ())
        self.tells(pushed_flow(Web(40, ()), [0, 3], [39]), ())

    def test_one_tie(self):
        for weight in ((1, 1), (1, 55440), (10 ** 12, 1), (5, 12), (10 ** 12 - 1, 16)):
            web = Web(2, [(0, 1, weight)])
            self.tells(pushed_flow(web, (0,), (1,)), ((0, 1, weight),))
            self.tells(pushed_flow(web, [1], [0]), ((1, 0, weight),))

    def test_in_two_pieces(self):
        web = whole(4, [(0, 1, 5), (2, 3, 7)])
        self.tells(pushed_flow(web, (0,), (3,)), ())
        self.tells(pushed_flow(web, (0, 2), (3,)), rows([(2, 3, 7)]))
        self.tells(pushed_flow(in_pieces(40), (0, 3), (1, 38)), ())

    def test_what_is_too_much_goes_back(self):
        # 0-1-2 can bear 1 alone at its end; what was pushed to 1, and on to 3 and 4, where nothing leads on, comes back.
        web = whole(5, [(0, 1, 9), (1, 2, 1), (1, 3, 4), (3, 4, 4)])
        self.tells(pushed_flow(web, (0,), (2,)), rows([(0, 1, 1), (1, 2, 1)]))

    def test_a_path(self):
        web = Web(4, [(0, 1, (3, 2)), (1, 2, (5, 12)), (2, 3, (7, 11))])
        self.tells(pushed_flow(web, (3,), (0,)), ((1, 0, (5, 12)), (2, 1, (5, 12)), (3, 2, (5, 12))))

    def test_every_tie_is_filled(self):
        web = whole(4, [(0, 1, 3), (0, 2, 2), (1, 2, 1), (1, 3, 2), (2, 3, 3)])
        flow = rows([(0, 1, 3), (0, 2, 2), (1, 2, 1), (1, 3, 2), (2, 3, 3)])
        self.tells(pushed_flow(web, (0,), (3,)), flow)

    def test_greatest_by_all_sides(self):
        for web in small_webs() + list(made_webs(5, (2, 3, 4), 6)):
            for froms, tos in list(all_ends(web.many))[::1 if web.many < 5 else 7]:
                self.assertEqual(self.is_right(web, froms, tos), amount(least_between_ends(web, froms, tos)))

    def test_of_the_same_worth_as_the_others(self):
        for web in great_webs() + list(made_webs(13, (7, 8, 10, 13), 20)):
            for froms, tos in ends_of(web.many):
                worth = self.is_right(web, froms, tos)
                self.assertEqual(worth, flow_worth(web, froms, tos, shortest_flow(web, froms, tos)[0]))
                self.assertEqual(worth, flow_worth(web, froms, tos, halved_flow(web, froms, tos)[0]))

    def test_no_place(self):
        web = whole(3, [(0, 1, 1), (1, 2, 1)])
        for thing in ODD + ((), [], (3,), (1, 0), (0, 0), 0, 1, "0", {0: 0}):
            self.refuses(NoPlace, pushed_flow, web, thing, (2,))
            self.refuses(NoPlace, pushed_flow, web, (2,), thing)
            self.refuses(NoPlace, pushed_flow, web, thing, thing)
        self.refuses(NoPlace, pushed_flow, web, (0, 1), (1, 2))
        self.refuses(NoPlace, pushed_flow, Web(1, ()), (0,), (0,))

    def test_nothing_handed_in_is_changed(self):
        web = whole(4, [(0, 1, 3), (0, 2, 2), (1, 2, 1), (1, 3, 2), (2, 3, 3)])
        ties, froms, tos = web.ties, [0], [2, 3]
        pushed_flow(web, froms, tos)
        self.assertEqual((froms, tos, web.ties), ([0], [2, 3], ties))

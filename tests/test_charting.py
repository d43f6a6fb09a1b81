"""[24]: the chart of all least sides."""

from cutstree.allcuts import all_least, all_paper, how_many_least
from cutstree.charting import least_chart
from cutstree.charts import chart_sides, is_chart, is_least_chart
from cutstree.errors import InPieces, OnePlace, TooMany
from cutstree.webs import Web
from tests.seeking import crosses, least_chart_by_search, least_of_sides, least_sides
from tests.shapes import SOME, bunch, full, grown_rings, in_pieces, ladder, made_webs, mixed_up, necklace, path, renamed
from tests.shapes import ring, small_webs, star, thick_halves, whole
from tests.things import Case, numbers


class Least(Case):
    def looked_at(self, web):
        """The least chart, looked at by all that is told of it."""
        chart = least_chart(web)
        self.tells(chart, chart)
        self.assertIs(is_chart(web.many, chart), True)
        sides = all_least(web)
        self.assertEqual(chart_sides(web.many, chart), sides)
        uncrossed = tuple(side for side in sides if not any(crosses(side, other) for other in sides))
        self.assertEqual(chart[0], uncrossed)
        self.assertIs(is_least_chart(web, chart, all_paper(web)), True)
        self.assertEqual(least_chart(web), chart)
        return chart

    def by_search(self, web):
        chart = self.looked_at(web)
        self.assertEqual(chart_sides(web.many, chart), least_sides(web))
        self.assertEqual(chart, least_chart_by_search(web), web.ties)
        return chart

    def test_two_places(self):
        self.tells(least_chart(whole(2, [(0, 1, 3)])), (((1,),), ()))

    def test_rings_of_three_and_four(self):
        self.tells(least_chart(ring(3)), (((1,), (1, 2), (2,)), ()))
        self.tells(least_chart(ring(4)), (((1,), (1, 2, 3), (2,), (3,)), ((1, (0, 2, 3)),)))

    def test_an_order_that_is_not_rising(self):
        # 0-2-4-1-3-0 goes round: of 1 to 4 the order is 2, 4, 1, 3, and from its other end 3, 1, 4, 2.
        web = whole(5, [(0, 2, 1), (2, 4, 1), (1, 4, 1), (1, 3, 1), (0, 3, 1)])
        self.tells(least_chart(web), (((1,), (1, 2, 3, 4), (2,), (3,), (4,)), ((1, (2, 4, 0, 3)),)))

    def test_rings_that_share_a_place(self):
        # 0-1-2-3 and 2-4-5-6: behind 2 there's the ring of 4, 5 and 6, and with them 2 is one part of the first.
        web = whole(7, [(0, 1, 1), (1, 2, 1), (2, 3, 1), (0, 3, 1), (2, 4, 1), (4, 5, 1), (5, 6, 1), (2, 6, 1)])
        links = ((1,), (1, 2, 3, 4, 5, 6), (2, 4, 5, 6), (3,), (4,), (4, 5, 6), (5,), (6,))
        self.tells(least_chart(web), (links, ((1, (0, 2, 3)), (5, (4, 6, 7)))))
        self.by_search(web)

    def test_thick_parts_of_a_ring(self):
        self.tells(least_chart(necklace(8)), self.by_search(necklace(8)))
        web = whole(6, [(0, 1, 9), (1, 2, 1), (2, 3, 9), (3, 4, 1), (4, 5, 1), (0, 5, 1)])
        self.tells(least_chart(web), (((2, 3), (2, 3, 4, 5), (4,), (5,)), ((1, (0, 2, 3)),)))

    def test_no_ring_where_nothing_crosses(self):
        for web in (star(6), path(7), full(5), thick_halves(6), star(5, SOME), path(5, SOME), full(6, SOME)):
            self.assertEqual(self.by_search(web)[1], ())

    def test_by_search(self):
        webs = [web for web in small_webs() + list(made_webs(131, (2, 3, 4, 5, 6), 12)) if least_of_sides(web) > 0]
        webs += [ring(many) for many in range(3, 9)] + [ladder(8), star(7), path(7), thick_halves(8)]
        webs += [bunch((4, 4)), bunch((3, 5)), bunch((2, 4, 3)), bunch((5, 2), (7, 12)), bunch((4, 4, 2), (1, 3))]
        rings = [rows for links, rows in [self.by_search(web) for web in webs] if rows]
        self.assertGreater(len(rings), 12)

    def test_renamed(self):
        source = numbers(17)
        for web in (ring(6), ring(7), bunch((4, 4)), bunch((5, 3)), necklace(8), ladder(8), bunch((4, 2, 4))):
            for step in range(5):
                self.by_search(renamed(web, mixed_up(web.many, source)))

    def test_rings_that_hang_on_one_another(self):
        source = numbers(23)
        rings = 0
        for many in (4, 5, 6) * 8:
            rings += len(self.by_search(grown_rings(source, many))[1])
        for many in (8, 10, 12) * 5:
            rings += len(self.looked_at(grown_rings(source, many))[1])
        self.assertGreater(rings, 30)

    def test_two_rings_within_one_link(self):
        # The tie 0-1 is thin as two of a ring, and on 1 hang two rings.
        web = whole(8, [(0, 1, 2), (1, 2, 1), (2, 3, 1), (3, 4, 1), (1, 4, 1), (1, 5, 1), (5, 6, 1), (6, 7, 1), (1, 7, 1)])
        links, rings = self.by_search(web)
        self.assertEqual([links[k] for k, order in rings], [(2, 3, 4), (5, 6, 7)])
        self.assertIn((1, 2, 3, 4, 5, 6, 7), links)

    def test_sixteen_places(self):
        links, rings = self.looked_at(ring(16))
        self.assertEqual((len(links), len(rings), how_many_least(ring(16))), (16, 1, 120))
        for web in (full(16), star(16), path(16, SOME), ladder(16), necklace(16), bunch((6, 6, 6)), thick_halves(16)):
            self.looked_at(web)

    def test_refused(self):
        self.refuses(OnePlace, least_chart, Web(1, ()))
        for web in (Web(2, ()), Web(40, ()), in_pieces(5), in_pieces(17)):
            self.refuses(InPieces, least_chart, web)
        for web in (ring(17), path(40), full(40, SOME)):
            self.refuses(TooMany, least_chart, web, most=16)

    def test_the_web_is_not_changed(self):
        web = ring(5)
        ties = web.ties
        least_chart(web)
        self.assertEqual(web.ties, ties)

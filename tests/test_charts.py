"""[23], [24]: charts, the sides that they tell, and whether these are all least ones."""

from itertools import combinations, permutations

from cutstree.allcuts import all_least, all_paper
from cutstree.charts import chart_sides, is_chart, is_least_chart
from cutstree.errors import NoChart
from cutstree.pushing import pushed_flow
from cutstree.webs import Web
from tests.seeking import all_sides, crosses, least_chart_by_search, least_of_sides, right_rings, unions
from tests.shapes import SOME, full, in_pieces, ladder, made_webs, necklace, path, ring, small_webs, star, whole
from tests.things import ODD, Case, as_lists

# Of seven places: 1 to 6 are a ring of (1,), (2, 3), (4,) and (5, 6); and 5 is by itself in the last one.
LINKS = ((1,), (1, 2, 3, 4, 5, 6), (2, 3), (4,), (5,), (5, 6))
RINGS = ((1, (0, 2, 3, 5)),)
CHART = (LINKS, RINGS)
SIDES = ((1,), (1, 2, 3), (1, 2, 3, 4), (1, 2, 3, 4, 5, 6), (2, 3), (2, 3, 4), (2, 3, 4, 5, 6), (4,), (4, 5, 6), (5,),
         (5, 6))
# Two rings, one within the other one.
NESTED = (
    ((1,), (1, 2, 3), (1, 2, 3, 4, 5), (2,), (3,), (4,), (5,)),
    ((1, (0, 4, 3)), (2, (1, 6, 5))),
)
NO_LINKS = {
    "links that cross": ((1, 2), (2, 3)),
    "links that cross, one much greater": ((1, 2, 3, 4), (4, 5)),
    "links that cross far apart": ((1, 2), (3,), (4,), (5,), (6, 7))[:4] + ((1, 3),),
    "not rising": LINKS[::-1],
    "two changed": (LINKS[1], LINKS[0]) + LINKS[2:],
    "the greater one first": ((1, 2), (1,)),
    "one twice": LINKS[:1] + LINKS,
    "with place 0": ((0, 1),) + LINKS,
    "place 0 alone": ((0,),),
    "all places": (tuple(range(7)),),
    "an empty one": ((),) + LINKS,
    "a place beyond": ((7,),),
    "a place below": ((-1,), (1,)),
    "a link that doesn't rise": ((2, 1),),
    "a place twice": ((1, 1),),
    "a truth": ((True,), (2,)),
    "a text": ("1",),
    "a number": (1,),
    "a dict": ({0: 1},),
    "a dict of links": dict(enumerate(LINKS)),
}
NO_RINGS = {
    "no such link": ((6, (0, 2, 3, 5)),),
    "an index below": ((-5, (0, 2, 3, 5)),),
    "a truth for k": ((True, (0, 2, 3, 5)),),
    "a text for k": (("1", (0, 2, 3, 5)),),
    "the first index not less": ((1, (5, 3, 2, 0)),),
    "the first index greater": ((1, (3, 0, 5, 2)),),
    "an index twice": ((1, (0, 2, 3, 3, 5)),),
    "one index for another": ((1, (0, 2, 2, 5)),),
    "the first as the last": ((1, (0, 2, 3, 5, 0)),),
    "an index left out": ((1, (0, 2, 3)),),
    "an index that isn't straight within": ((1, (0, 2, 3, 4, 5)),),
    "one within for that around it": ((1, (0, 2, 3, 4)),),
    "the link itself": ((1, (0, 1, 2, 3, 5)),),
    "an index beyond": ((1, (0, 2, 3, 6)),),
    "a truth in the order": ((1, (False, 2, 3, 5)),),
    "an order of one": ((5, (4,)),),
    "an empty order": ((0, ()),),
    "no order": ((1, None),),
    "a text for an order": ((1, "0235"),),
    "a dict for an order": ((1, {0: 0, 1: 2, 2: 3, 3: 5}),),
    "a k twice": RINGS + RINGS,
    "a short ring": ((1,),),
    "a long ring": ((1, (0, 2, 3, 5), ()),),
    "no row": (1, (0, 2, 3, 5)),
    "a dict": {0: RINGS[0]},
}


class Told(Case):
    def right(self, many, chart, sides):
        for one in (chart, as_lists(chart), list(chart)):
            self.assertIs(is_chart(many, one), True)
            self.tells(chart_sides(many, one), sides)

    def wrong(self, many, chart):
        for one in (chart, as_lists(chart)):
            self.assertIs(is_chart(many, one), False, one)
            self.refuses(NoChart, chart_sides, many, one)

    def test_links_alone(self):
        self.right(7, (LINKS, ()), LINKS)
        self.right(2, (((1,),), ()), ((1,),))
        self.right(40, (((1, 39), tuple(range(2, 39)), (5,)), ()), ((1, 39), tuple(range(2, 39)), (5,)))
        self.right(40, (((39,),), ()), ((39,),))

    def test_no_links(self):
        for many in (1, 2, 40):
            self.right(many, ((), ()), ())

    def test_one_place(self):
        for links in (((),), ((0,),), ((1,),)):
            self.wrong(1, (links, ()))

    def test_links_and_a_ring(self):
        self.right(7, CHART, SIDES)
        order = (2, 0, 5, 3)
        told = LINKS + ((1, 2, 3), (1, 5, 6), (4, 5, 6), (1, 2, 3, 5, 6), (1, 4, 5, 6))
        self.right(7, (LINKS, ((1, order),)), tuple(sorted(told)))

    def test_a_ring_of_three(self):
        links = ((1,), (1, 2, 3), (2,), (3,))
        self.right(4, (links, ((1, (0, 2, 3)),)), ((1,), (1, 2), (1, 2, 3), (2,), (2, 3), (3,)))
        self.right(4, (links, ((1, (2, 0, 3)),)), ((1,), (1, 2), (1, 2, 3), (1, 3), (2,), (3,)))

    def test_rings_within_a_ring(self):
        told = NESTED[0] + ((1, 3), (2, 3), (1, 2, 3, 5), (4, 5))
        self.right(6, NESTED, tuple(sorted(told)))
        self.right(7, NESTED, tuple(sorted(told)))
        self.right(6, (NESTED[0], NESTED[1][1:]), tuple(sorted(NESTED[0] + ((1, 2, 3, 5), (4, 5)))))

    def test_rings_rise_by_k_whatever_their_orders(self):
        rings = ((1, (3, 0, 4)), (2, (1, 6, 5)))
        told = NESTED[0] + ((1, 2), (1, 3), (1, 2, 3, 5), (4, 5))
        self.right(6, (NESTED[0], rings), tuple(sorted(told)))
        self.wrong(6, (NESTED[0], rings[::-1]))
        self.wrong(6, (NESTED[0], NESTED[1][::-1]))

    def test_rings_side_by_side(self):
        links = ((1,), (1, 2, 3), (2,), (3,), (4,), (4, 5, 6), (5,), (6,))
        rings = ((1, (0, 2, 3)), (5, (4, 6, 7)))
        told = links + ((1, 2), (2, 3), (4, 5), (5, 6))
        self.right(7, (links, rings), tuple(sorted(told)))
        self.wrong(7, (links, rings[::-1]))
        self.wrong(7, (links, (rings[0], rings[0])))
        self.wrong(7, (links, ((1, (4, 6, 7)), (5, (0, 2, 3)))))

    def test_a_great_ring(self):
        links = tuple(sorted([(place,) for place in range(1, 40)] + [tuple(range(1, 40))]))
        order = tuple(at for at in range(40) if at != 1)
        arcs = sorted(tuple(range(a, b)) for a in range(1, 40) for b in range(a + 1, 41))
        self.right(40, (links, ((1, order),)), tuple(arcs))

    def test_links_bent(self):
        for name, links in NO_LINKS.items():
            with self.subTest(name):
                self.wrong(7, (links, ()))

    def test_places_beyond(self):
        for many in (1, 2, 6):
            self.wrong(many, (LINKS, ()))
        self.assertIs(is_chart(8, (LINKS, ())), True)

    def test_rings_bent(self):
        for name, rings in NO_RINGS.items():
            with self.subTest(name):
                self.wrong(7, (LINKS, rings))

    def test_a_ring_of_two(self):
        self.wrong(3, (((1,), (1, 2), (2,)), ((1, (0, 2)),)))
        self.assertIs(is_chart(3, (((1,), (1, 2), (2,)), ())), True)

    def test_links_that_together_are_not_all_places(self):
        self.wrong(5, (((1,), (1, 2, 3, 4), (2,), (3,)), ((1, (0, 2, 3)),)))
        self.assertIs(is_chart(5, (((1,), (1, 2, 3, 4), (2,), (3,)), ())), True)

    def test_the_chart_bent(self):
        for chart in ((LINKS,), (RINGS, LINKS), (LINKS, RINGS, ()), LINKS, RINGS, (), {0: LINKS, 1: RINGS}):
            self.wrong(7, chart)

    def test_all_rows_of_links(self):
        sides = sorted(side for side in all_sides(4) if 0 not in side)
        for length in range(len(sides) + 1):
            for links in combinations(sides, length):
                right = not any(crosses(one, other) for one, other in combinations(links, 2))
                self.assertIs(is_chart(4, (links, ())), right)
                if right:
                    self.all_rings(links)

    def all_rings(self, links):
        right = set(right_rings(links))
        for k in range(len(links)):
            for order in [row for length in range(5) for row in permutations(range(len(links)), length)]:
                self.assertIs(is_chart(4, (links, ((k, order),))), (k, order) in right)
        for ring_row in right:
            self.tells(chart_sides(4, (links, (ring_row,))), tuple(sorted(links + tuple(unions(links, ring_row[1])))))

    def test_things_of_any_kind(self):
        for thing in ODD + (0, "x", (), [((), ()), None]):
            for many in (1, 7, 40):
                self.wrong(many, thing) if thing != ((), ()) else self.right(many, thing, ())
            self.wrong(7, (thing, RINGS))
            self.wrong(7, (LINKS + (thing,), RINGS))
            self.wrong(7, (LINKS, RINGS + (thing,)))
            self.wrong(7, (LINKS, ((thing, (0, 2, 3, 5)),)))
            self.wrong(7, (LINKS, ((1, thing),)))
            self.wrong(7, (LINKS, ((1, (0, 2, 3, thing)),)))
            if thing != ():
                self.wrong(7, (thing, ()))
                self.wrong(7, (LINKS, thing))

    def test_many_things(self):
        self.wrong(40, (sorted(combinations(range(1, 40), 3))[:4900], ()))
        self.wrong(7, (LINKS, RINGS * 2000))
        self.wrong(7, (LINKS, ((1, (0, 2, 3, 5) * 4000),)))

    def test_nothing_handed_in_is_changed(self):
        chart = as_lists(CHART)
        is_chart(7, chart), chart_sides(7, chart)
        self.assertEqual(chart, as_lists(CHART))


class Least(Case):
    def test_by_hand(self):
        links = ((1,), (1, 2, 3), (2,), (3,))
        chart, paper = (links, ((1, (0, 2, 3)),)), all_paper(ring(4))
        for one in (chart, as_lists(chart)):
            self.assertIs(is_least_chart(ring(4), one, paper), True)
            self.assertIs(is_least_chart(ring(4), one, as_lists(paper)), True)
        self.assertIs(is_least_chart(ring(4), (links, ()), paper), False)
        self.assertIs(is_least_chart(ring(4), (links, ((1, (2, 0, 3)),)), paper), False)
        self.assertIs(is_least_chart(full(4), (links, ()), all_paper(full(4))), True)
        self.assertIs(is_least_chart(full(4), chart, all_paper(full(4))), False)
        self.assertIs(is_least_chart(ring(5), chart, all_paper(ring(5))), False)

    def test_by_search(self):
        webs = small_webs() + list(made_webs(107, (2, 3, 4, 5, 6), 10)) + [ring(7), ladder(8), necklace(8), star(7)]
        webs += [ring(many, weights) for many in (3, 4, 5) for weights in (((1, 3),), ((1, 1), (2, 1)), ((7, 12),))]
        webs.append(whole(7, [(0, 1, 2), (1, 2, 1), (1, 3, 1), (2, 3, 1), (3, 4, 1), (4, 5, 1), (5, 6, 1), (3, 6, 1)]))
        rings_seen = 0
        for web in [web for web in webs if least_of_sides(web) > 0]:
            links, rings = least_chart_by_search(web)
            paper = all_paper(web)
            self.tells(chart_sides(web.many, (links, rings)), all_least(web))
            self.assertIs(is_least_chart(web, (links, rings), paper), True)
            for k in range(len(rings)):
                rings_seen += 1
                self.assertIs(is_least_chart(web, (links, rings[:k] + rings[k + 1:]), paper), False)
            if len(links) > 1:
                self.assertIs(is_least_chart(web, (links[1:], ()), paper), False)
        self.assertGreater(rings_seen, 8)

    def test_other_orders(self):
        web = ring(6)
        links, rings = least_chart_by_search(web)
        for row in right_rings(links):
            self.assertIs(is_least_chart(web, (links, (row,)), all_paper(web)), (row,) == rings)

    def test_forty_places(self):
        links = tuple(sorted([(place,) for place in range(1, 40)] + [tuple(range(1, 40))]))
        chart = (links, ((1, tuple(at for at in range(40) if at != 1)),))
        paper = [pushed_flow(ring(40), tuple(range(k)), (k,)) for k in range(1, 40)]
        self.assertIs(is_least_chart(ring(40), chart, paper), True)
        self.assertIs(is_least_chart(ring(40), (links, ()), paper), False)
        web = path(40)
        paper = [pushed_flow(web, tuple(range(k)), (k,)) for k in range(1, 40)]
        self.assertIs(is_least_chart(web, (tuple(tuple(range(k, 40)) for k in range(1, 40)), ()), paper), True)

    def test_a_link_of_another_weight(self):
        web = path(4, SOME)
        paper, links = all_paper(web), all_least(web)
        self.assertIs(is_least_chart(web, (links, ()), paper), True)
        for side in ((1,), (2,), (3,), (1, 2, 3), (2, 3)):
            self.assertIs(is_least_chart(web, ((side,), ()), paper), (side,) == links)
        self.assertIs(is_least_chart(web, ((), ()), paper), False)

    def test_one_place_and_several_pieces(self):
        self.assertIs(is_least_chart(Web(1, ()), ((), ()), ()), False)
        self.assertIs(is_least_chart(Web(2, ()), (((1,),), ()), ((),)), False)
        self.assertIs(is_least_chart(in_pieces(5), (((1, 4),), ()), ((),) * 4), False)

    def test_the_paper_bent(self):
        chart, paper = least_chart_by_search(ring(4)), all_paper(ring(4))
        for bent in (paper[:2], paper[1:], paper[::-1], paper + ((),), ((),) + paper[1:], paper[:2] + ((),), ()):
            self.assertIs(is_least_chart(ring(4), chart, bent), False)

    def test_things_of_any_kind(self):
        chart, paper = least_chart_by_search(ring(4)), all_paper(ring(4))
        for thing in ODD + (0, "x", ()):
            self.assertIs(is_least_chart(ring(4), thing, paper), False)
            self.assertIs(is_least_chart(ring(4), (thing, chart[1]), paper), False)
            self.assertIs(is_least_chart(ring(4), (chart[0], thing), paper), False)
            self.assertIs(is_least_chart(ring(4), chart, thing), False)
            self.assertIs(is_least_chart(ring(4), chart, paper[:2] + (thing,)), False)
            self.assertIs(is_least_chart(ring(4), thing, thing), False)
            self.assertIs(is_least_chart(Web(1, ()), thing, thing), False)

    def test_nothing_handed_in_is_changed(self):
        chart, paper = as_lists(least_chart_by_search(ring(5))), as_lists(all_paper(ring(5)))
        kept = (as_lists(least_chart_by_search(ring(5))), as_lists(all_paper(ring(5))))
        is_least_chart(ring(5), chart, paper)
        self.assertEqual((chart, paper), kept)

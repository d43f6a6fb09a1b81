"""[30]: ways apart, and the fewest ties that must go."""

from itertools import combinations, permutations

from cutstree.disjoint import are_ways_apart, fewest_paper, is_fewest, ways_apart
from cutstree.errors import NoPlace
from cutstree.webs import Web
from tests.seeking import all_sides
from tests.shapes import MIXED, SOME, bunch, full, great_webs, in_pieces, ladder, made_webs, necklace, path, ring
from tests.shapes import small_webs, star, whole
from tests.test_behind import NO_PLACES
from tests.things import ODD, Case, as_lists

# From 0 to 5 by 1-3, by 2-4, and between them 1-2, 3-4.
WEB = whole(6, [(0, 1, 1), (0, 2, 5), (1, 2, 2), (1, 3, 1), (2, 4, 3), (3, 4, 1), (3, 5, 7), (4, 5, 1)])
WAYS = ((0, 1, 3, 5), (0, 2, 4, 5))
BENT = {
    "not from i": ((1, 3, 5),),
    "not to j": ((0, 1, 3),),
    "from j to i": ((5, 3, 1, 0),),
    "a step where there's no tie": ((0, 3, 5),),
    "a place twice": ((0, 1, 2, 0, 2, 4, 5),),
    "a tie twice in one": ((0, 1, 3, 4, 2, 1, 3, 5),),
    "i once more": ((0, 1, 2, 0, 1, 3, 5),),
    "through j": ((0, 1, 3, 5, 4, 5),),
    "a place that is stepped on from itself": ((0, 1, 1, 3, 5),),
    "a tie in two of them": ((0, 1, 3, 5), (0, 2, 1, 3, 4, 5)),
    "a tie in two of them, the other way": ((0, 1, 2, 4, 5), (0, 2, 1, 3, 5)),
    "the last tie in two of them": ((0, 1, 3, 5), (0, 2, 4, 3, 5)),
    "a way twice": ((0, 1, 3, 5), (0, 1, 3, 5)),
    "a place beyond": ((0, 6, 5),),
    "a place below": ((0, -1, 5),),
    "a truth for a place": ((False, True, 3, 5),),
    "one place": ((0,),),
    "no place": ((),),
    "a way for ways": (0, 1, 3, 5),
    "a text": ("0135",),
    "a dict for a way": ({0: 0, 1: 1, 2: 3, 3: 5},),
    "a dict for ways": {0: WAYS[0], 1: WAYS[1]},
}


def fewest_by_search(web, i, j):
    """The least number of ties that lead out of a side which parts i and j."""
    parting = [side for side in all_sides(web.many) if i in side and j not in side]
    return min(sum((a in side) != (b in side) for a, b, weight in web.ties) for side in parting)


def all_simple_ways(web, i, j):
    others = [place for place in range(web.many) if place not in (i, j)]
    for length in range(len(others) + 1):
        for inner in permutations(others, length):
            way = (i,) + inner + (j,)
            if all(web.tie(a, b) != (0, 1) for a, b in zip(way, way[1:])):
                yield way


def joins(ties, i, j):
    """Whether ways of ties lead from i to j."""
    found = {i}
    for step in ties:
        for a, b, weight in ties:
            if (a in found) != (b in found):
                found |= {a, b}
    return j in found


class Told(Case):
    def test_right_ways(self):
        for ways in ((), WAYS, WAYS[:1], WAYS[1:], WAYS[::-1], ((0, 1, 2, 4, 3, 5),), ((0, 2, 1, 3, 4, 5),),
                     ((0, 1, 2, 4, 5),), ((0, 1, 2, 4, 3, 5),)):
            for one in (ways, as_lists(ways), list(ways)):
                self.assertIs(are_ways_apart(WEB, 0, 5, one), True)
        self.assertIs(are_ways_apart(WEB, 5, 0, ((5, 3, 1, 0), (5, 4, 2, 0))), True)
        self.assertIs(are_ways_apart(WEB, 1, 2, ((1, 2), (1, 0, 2), (1, 3, 4, 2))), True)

    def test_ways_that_share_places(self):
        web = bunch((3, 3))
        self.assertIs(are_ways_apart(web, 1, 3, ((1, 0, 3), (1, 2, 0, 4, 3))), True)
        self.assertIs(are_ways_apart(web, 1, 3, ((1, 0, 3), (1, 2, 0, 3))), False)

    def test_each_word_broken(self):
        for name, ways in BENT.items():
            with self.subTest(name):
                self.assertIs(are_ways_apart(WEB, 0, 5, ways), False)
                self.assertIs(are_ways_apart(WEB, 0, 5, as_lists(ways)), False)
                if isinstance(ways, tuple):
                    self.assertIs(are_ways_apart(WEB, 0, 5, ways + ((0, 1, 3, 5),)), False)

    def test_a_place_twice_but_no_tie(self):
        for way in ((0, 1, 2, 3, 1, 4), (0, 1, 2, 0, 3, 4), (0, 4, 1, 2, 4)):
            self.assertIs(are_ways_apart(full(5), 0, 4, (way,)), False)
        self.assertIs(are_ways_apart(full(5), 0, 4, ((0, 1, 2, 3, 4),)), True)

    def test_all_rows_of_ways(self):
        web = whole(5, [(0, 1, 1), (0, 2, 1), (1, 2, 1), (1, 3, 1), (2, 3, 1), (3, 4, 1), (0, 4, 1)])
        ways = list(all_simple_ways(web, 0, 3))
        for length in range(4):
            for some in combinations(ways, length):
                ties = [frozenset(step) for way in some for step in zip(way, way[1:])]
                self.assertIs(are_ways_apart(web, 0, 3, some), len(set(ties)) == len(ties))

    def test_things_of_any_kind(self):
        for thing in ODD + (0, "x"):
            self.assertIs(are_ways_apart(WEB, 0, 5, thing), False)
            self.assertIs(are_ways_apart(WEB, 0, 5, (thing,)), False)
            self.assertIs(are_ways_apart(WEB, 0, 5, WAYS + (thing,)), False)
            self.assertIs(are_ways_apart(WEB, 0, 5, ((0, thing, 5),)), False)
            self.assertIs(are_ways_apart(WEB, 0, 5, ((0, 1, 3, thing),)), False)

    def test_a_web_without_ties(self):
        self.assertIs(are_ways_apart(Web(2, ()), 0, 1, ()), True)
        self.assertIs(are_ways_apart(Web(2, ()), 0, 1, ((0, 1),)), False)


class Found(Case):
    def found(self, web, i, j):
        """How many ways there are; ways and paper looked at."""
        ways = ways_apart(web, i, j)
        self.tells(ways, ways)
        self.assertIs(are_ways_apart(web, i, j, ways), True, (web.ties, i, j, ways))
        paper = fewest_paper(web, i, j)
        self.tells(paper, paper)
        self.assertEqual(len(paper[0]), len(ways))
        self.assertIs(is_fewest(web, i, j, paper), True)
        self.assertIs(is_fewest(web, i, j, as_lists(paper)), True)
        self.assertEqual((ways_apart(web, i, j), fewest_paper(web, i, j)), (ways, paper))
        return len(ways)

    def test_by_hand(self):
        self.tells(ways_apart(path(3), 0, 2), ((0, 1, 2),))
        self.tells(ways_apart(path(3), 2, 0), ((2, 1, 0),))
        self.tells(sorted(ways_apart(ring(4), 0, 2))[0], (0, 1, 2))
        self.tells(ways_apart(Web(2, ()), 0, 1), ())
        self.tells(fewest_paper(Web(2, ()), 1, 0), ((), (1,)))
        self.assertEqual(self.found(WEB, 0, 5), 2)
        self.assertEqual(self.found(WEB, 1, 2), 3)

    def test_weights_don_t_count(self):
        for weights in (SOME, MIXED):
            self.assertEqual(self.found(full(6, weights), 0, 5), 5)
            self.assertEqual(self.found(ring(6, weights), 1, 4), 2)

    def test_by_search(self):
        for web in small_webs()[::2] + list(made_webs(181, (2, 3, 4, 5, 6), 6)) + [bunch((3, 4)), ladder(8)]:
            for i, j in permutations(range(web.many), 2):
                self.assertEqual(self.found(web, i, j), fewest_by_search(web, i, j))

    def test_that_many_must_go_and_are_enough(self):
        for web in (WEB, full(4), ring(5), star(5)):
            for i, j in ((0, 3), (2, 1)):
                fewest = self.found(web, i, j)
                for many in range(fewest + 1):
                    left = [set(web.ties) - set(gone) for gone in combinations(web.ties, many)]
                    self.assertIs(all(joins(ties, i, j) for ties in left), many < fewest)

    def test_great_webs(self):
        for web in great_webs() + [in_pieces(9), necklace(12)]:
            for i, j in ((0, web.many - 1), (3, 1), (2, 5)):
                self.found(web, i, j)
        self.assertEqual(self.found(full(40, SOME), 17, 3), 39)
        self.assertEqual(self.found(in_pieces(9), 0, 1), 0)

    def test_the_web_is_not_changed(self):
        ties = WEB.ties
        fewest_paper(WEB, 0, 5)
        self.assertEqual(WEB.ties, ties)


class Papers(Case):
    def test_right_papers(self):
        for side in ((0,), (5,), (0, 1, 2), (3, 4, 5), (1, 2, 3, 4, 5)):
            for paper in ((WAYS, side), [list(WAYS), list(side)], as_lists((WAYS, side))):
                self.assertIs(is_fewest(WEB, 0, 5, paper), True)
                self.assertIs(is_fewest(WEB, 5, 0, (tuple(way[::-1] for way in WAYS), side)), True)

    def test_sides_bent(self):
        for side in ((0, 1), (0, 2), (0, 1, 2, 3), (1, 2), (1, 3), (0, 5), (1, 2, 3, 4), (), (0, 1, 2, 3, 4, 5),
                     (2, 1, 0), (0, 0), (6,), (0, True, 2), "0", {0: 0}, 0):
            self.assertIs(is_fewest(WEB, 0, 5, (WAYS, side)), False, side)

    def test_a_side_that_doesn_t_part_them(self):
        # Two ties lead out of each of these sides, but 0 and 5 are in it both, or neither.
        web = whole(8, list((i, j, 1) for i, j, weight in WEB.ties) + [(0, 6, 1), (0, 7, 1), (6, 7, 1)])
        self.assertIs(is_fewest(web, 0, 5, (WAYS, (6, 7))), False)
        self.assertIs(is_fewest(web, 0, 5, (WAYS, (0, 1, 2, 3, 4, 5))), False)
        self.assertIs(is_fewest(web, 0, 5, (WAYS, (0, 1, 2, 6, 7))), True)

    def test_ways_bent(self):
        for ways in list(BENT.values()) + [(), WAYS[:1], WAYS[1:], WAYS + WAYS[:1]]:
            self.assertIs(is_fewest(WEB, 0, 5, (ways, (0,))), False)
        self.assertIs(is_fewest(path(4), 0, 3, (((0, 1, 2, 3),), (2, 3))), True)
        self.assertIs(is_fewest(path(4), 0, 3, ((), (2, 3))), False)

    def test_the_paper_bent(self):
        for paper in ((WAYS,), (WAYS, (0,), ()), ((0,), WAYS), (), WAYS, {0: WAYS, 1: (0,)}):
            self.assertIs(is_fewest(WEB, 0, 5, paper), False)

    def test_things_of_any_kind(self):
        for thing in ODD + (0, "x", ()):
            self.assertIs(is_fewest(WEB, 0, 5, thing), False)
            self.assertIs(is_fewest(WEB, 0, 5, (thing, (0,))), False)
            self.assertIs(is_fewest(WEB, 0, 5, (WAYS, thing)), False)
            self.assertIs(is_fewest(WEB, 0, 5, (WAYS[:1] + (thing,), (0,))), False)

    def test_no_place(self):
        for thing in NO_PLACES + (6,):
            places = ((thing, 1), (1, thing), (thing, thing)) if thing not in (4, 5) else ((thing, thing),)
            for i, j in places:
                self.refuses(NoPlace, ways_apart, WEB, i, j)
                self.refuses(NoPlace, fewest_paper, WEB, i, j)
                for other in ((), WAYS, thing, None):
                    self.refuses(NoPlace, are_ways_apart, WEB, i, j, other)
                    self.refuses(NoPlace, is_fewest, WEB, i, j, other)
        for call in (ways_apart, fewest_paper):
            self.refuses(NoPlace, call, Web(1, ()), 0, 0)

    def test_nothing_handed_in_is_changed(self):
        paper = as_lists((WAYS, (0,)))
        is_fewest(WEB, 0, 5, paper), are_ways_apart(WEB, 0, 5, paper[0])
        self.assertEqual(paper, as_lists((WAYS, (0,))))

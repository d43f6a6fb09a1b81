"""[21], [22], [25]: all least sides, the paper for them, and places that none of them parts."""

from cutstree.allcuts import all_least, all_paper, firm, how_many_least, is_all_least
from cutstree.errors import InPieces, OnePlace, TooMany
from cutstree.flows import flow_worth
from cutstree.pushing import pushed_flow
from cutstree.shortest import shortest_flow
from cutstree.webs import Web
from tests.seeking import all_sides, least_of_sides, least_sides, weight_of
from tests.shapes import ONES, SOME, full, in_pieces, ladder, made_webs, necklace, path, ring, rows, small_webs, star
from tests.shapes import thick_halves, whole
from tests.things import ODD, Case, as_lists, is_told

CALLS = (all_least, all_paper, firm)
SQUARE = ring(4)
# All arcs without place 0.
ARCS = ((1,), (1, 2), (1, 2, 3), (2,), (2, 3), (3,))
PAPER = (
    rows([(0, 1, 1), (0, 3, 1), (2, 1, 1), (3, 2, 1)]),
    rows([(0, 3, 1), (1, 2, 1), (3, 2, 1)]),
    rows([(0, 3, 1), (2, 3, 1)]),
)


def in_one_piece(webs):
    return [web for web in webs if least_of_sides(web) > 0]


def replaced(row, at, thing):
    return row[:at] + (thing,) + row[at + 1:]


def in_order(web, call):
    """A flow from all places ahead to each place."""
    return tuple(call(web, tuple(range(k)), (k,)) for k in range(1, web.many))


def all_small():
    webs = small_webs() + list(made_webs(101, (2, 3, 4, 5, 6, 7), 10)) + [ring(8), ladder(8), necklace(8), full(7)]
    return webs + [ring(7, ((1, 1), (2, 1))), whole(6, [(0, 1, 2), (1, 2, 1), (2, 3, 1), (1, 3, 1), (3, 4, 2), (4, 5, 3)])]


class Told(Case):
    def test_by_hand(self):
        self.tells(all_least(SQUARE), ARCS)
        self.tells(all_least(Web(2, [(0, 1, (5, 12))])), ((1,),))
        self.tells(all_least(path(4)), ((1, 2, 3), (2, 3), (3,)))
        self.tells(all_least(path(4, ((1, 1), (2, 1)))), ((1, 2, 3), (3,)))
        self.tells(all_least(star(4, ONES, 2)), ((1,), (1, 2, 3), (3,)))
        self.tells(all_least(full(4)), ((1,), (1, 2, 3), (2,), (3,)))
        self.tells(all_least(full(3)), ((1,), (1, 2), (2,)))

    def test_by_all_sides(self):
        for web in in_one_piece(all_small()):
            self.tells(all_least(web), least_sides(web))
            self.tells(how_many_least(web), len(least_sides(web)))

    def test_as_many_as_there_may_be(self):
        for many in (2, 3, 5, 9, 16):
            web = whole(2, [(0, 1, 1)]) if many == 2 else ring(many)
            arcs = sorted(tuple(range(a, b)) for a in range(1, many) for b in range(a + 1, many + 1))
            self.tells(all_least(web), tuple(arcs))
            self.tells(how_many_least(web), many * (many - 1) // 2)

    def test_sixteen_places(self):
        self.tells(all_least(thick_halves(16)), (tuple(range(8, 16)),))
        self.tells(how_many_least(path(16)), 15)
        self.tells(how_many_least(full(16, SOME)), len(all_least(full(16, SOME))))

    def test_how_many_in_several_pieces(self):
        for web in all_small():
            self.tells(how_many_least(web), len(least_sides(web)))
        self.tells(how_many_least(Web(40, ())), (1 << 39) - 1)
        self.tells(how_many_least(in_pieces(40)), 3)
        self.tells(how_many_least(Web(17, ())), (1 << 16) - 1)
        self.tells(how_many_least(Web(2, ())), 1)
        self.tells(how_many_least(whole(20, [(0, k, 1) for k in range(1, 19)])), 1)

    def test_the_same_again(self):
        for call in CALLS + (how_many_least,):
            self.assertEqual(call(ring(6)), call(ring(6)))


class Firm(Case):
    def test_by_hand(self):
        self.tells(firm(SQUARE), ((0,), (1,), (2,), (3,)))
        self.tells(firm(thick_halves(6)), ((0, 1, 2), (3, 4, 5)))
        self.tells(firm(path(4, ((1, 1), (2, 1)))), ((0,), (1, 2), (3,)))
        self.tells(firm(whole(4, [(0, 2, 5), (0, 3, 1), (1, 3, 5)])), ((0, 2), (1, 3)))
        self.tells(firm(Web(2, [(0, 1, (1, 16))])), ((0,), (1,)))

    def test_by_all_sides(self):
        for web in in_one_piece(all_small()):
            sides, told = least_sides(web), firm(web)
            self.assertTrue(is_told(told))
            self.assertEqual(sorted(place for row in told for place in row), list(range(web.many)))
            self.assertEqual(list(told), sorted(tuple(sorted(row)) for row in told))
            row_of = {place: row for row in told for place in row}
            for i in range(web.many):
                for j in range(web.many):
                    apart = any((i in side) != (j in side) for side in sides)
                    self.assertIs(row_of[i] != row_of[j], apart)


class Refused(Case):
    def test_one_place(self):
        for call in CALLS + (how_many_least,):
            self.refuses(OnePlace, call, Web(1, ()))

    def test_in_pieces(self):
        for web in (Web(2, ()), in_pieces(5), in_pieces(16), whole(4, [(0, 3, 1), (1, 2, 1)])):
            for call in CALLS:
                self.refuses(InPieces, call, web)

    def test_too_many(self):
        for web in (ring(17), path(17), full(40), star(18, SOME)):
            for call in CALLS + (how_many_least,):
                self.refuses(TooMany, call, web, most=16)

    def test_in_pieces_ahead_of_too_many(self):
        for web in (Web(17, ()), in_pieces(40)):
            for call in CALLS:
                self.refuses(InPieces, call, web)


class Checked(Case):
    def test_right_papers(self):
        for sides in (ARCS, list(ARCS), as_lists(ARCS)):
            for paper in (PAPER, list(PAPER), as_lists(PAPER)):
                self.assertIs(is_all_least(SQUARE, sides, paper), True)
        self.assertIs(is_all_least(Web(2, [(0, 1, (5, 12))]), [[1]], [[[0, 1, [5, 12]]]]), True)

    def test_all_paper(self):
        for web in in_one_piece(all_small()) + [ring(16), full(16, SOME), necklace(16)]:
            paper, sides = all_paper(web), all_least(web)
            self.assertTrue(is_told(paper))
            self.assertIs(is_all_least(web, sides, paper), True)
            self.assertIs(is_all_least(web, as_lists(sides), as_lists(paper)), True)
            other = in_order(web, lambda *ends: shortest_flow(*ends)[0])
            self.assertIs(is_all_least(web, sides, other), True)

    def test_with_a_side_left_out_or_one_more(self):
        for web in in_one_piece(small_webs()) + [SQUARE, ring(7)]:
            paper, sides = all_paper(web), all_least(web)
            for k in range(len(sides)):
                self.assertIs(is_all_least(web, sides[:k] + sides[k + 1:], paper), False)
                self.assertIs(is_all_least(web, replaced(sides, k, sides[k - 1]), paper), len(sides) == 1)
            for side in set(all_sides(web.many)) - set(sides):
                self.assertIs(is_all_least(web, tuple(sorted(sides + (side,))), paper), False)
                self.assertIs(is_all_least(web, (side,), paper), False)
            self.assertIs(is_all_least(web, (), paper), False)
            self.assertIs(is_all_least(web, [], paper), False)

    def test_every_row_of_sides(self):
        # Of all rows of sides of one weight just the right one is let by.
        for web in (SQUARE, path(4), full(4), whole(4, [(0, 1, 2), (0, 3, 1), (1, 2, 1), (2, 3, 1)])):
            paper, right = all_paper(web), least_sides(web)
            sides = sorted(side for side in all_sides(4) if 0 not in side)
            for chosen in range(1 << len(sides)):
                row = tuple(side for k, side in enumerate(sides) if chosen >> k & 1)
                self.assertIs(is_all_least(web, row, paper), row == right)

    def test_sides_that_are_not_least(self):
        # All sides of the weight 3, of a web whose least weight is 2: the flows are worth less than 3.
        web = whole(3, [(0, 1, 1), (0, 2, 1), (1, 2, 2)])
        self.assertEqual(least_sides(web), ((1, 2),))
        self.assertIs(is_all_least(web, ((1,), (2,)), all_paper(web)), False)
        self.assertIs(is_all_least(web, ((1, 2),), all_paper(web)), True)

    def test_the_sides_bent(self):
        for sides in (ARCS[::-1], (ARCS[1], ARCS[0]) + ARCS[2:], ARCS + ARCS[5:], ((0, 3),) + ARCS, ((),) + ARCS,
                      ARCS + ((4,),), replaced(ARCS, 1, (2, 1)), replaced(ARCS, 0, (True,)), replaced(ARCS, 0, 1),
                      replaced(ARCS, 5, (0, 1, 2)), dict(enumerate(ARCS))):
            self.assertIs(is_all_least(SQUARE, sides, PAPER), False)

    def test_a_flow_bent(self):
        for k in range(3):
            for flow in ((), PAPER[k][:-1], PAPER[k][::-1], PAPER[k] + PAPER[k][-1:], None, PAPER, PAPER[k - 1],
                         replaced(PAPER[k], 0, PAPER[k][0][:2] + ((2, 1),)),
                         tuple((i, j, (1, 2)) for i, j, much in PAPER[k])):
                self.assertIs(is_all_least(SQUARE, ARCS, replaced(PAPER, k, flow)), False)

    def test_the_paper_bent(self):
        for paper in ((), PAPER[:2], PAPER[1:], PAPER[::-1], PAPER + ((),), PAPER + PAPER[2:], dict(enumerate(PAPER))):
            self.assertIs(is_all_least(SQUARE, ARCS, paper), False)

    def test_a_flow_of_more_than_the_least_needs_not_be_greatest(self):
        web = thick_halves(6, ONES)
        paper, sides = all_paper(web), all_least(web)
        self.assertEqual(sides, ((3, 4, 5),))
        self.assertEqual(flow_worth(web, (0, 1), (2,), rows([(0, 2, 1)])), (1, 1))
        self.assertIs(is_all_least(web, sides, replaced(paper, 1, rows([(0, 2, 1)]))), True)
        # Worth just the least weight, and more could flow: what isn't reached hasn't place 2.
        self.assertIs(is_all_least(web, sides, replaced(paper, 1, ((0, 2, (1, 16)),))), False)
        self.assertIs(is_all_least(web, sides, replaced(paper, 1, ((0, 2, (1, 55440)),))), False)

    def test_forty_places(self):
        web = ring(40)
        arcs = sorted(tuple(range(a, b)) for a in range(1, 40) for b in range(a + 1, 41))
        paper = in_order(web, pushed_flow)
        self.assertIs(is_all_least(web, arcs, paper), True)
        for k in (0, 38, 400, 779):
            self.assertIs(is_all_least(web, arcs[:k] + arcs[k + 1:], paper), False)
        web = thick_halves(40)
        self.assertIs(is_all_least(web, (tuple(range(20, 40)),), in_order(web, pushed_flow)), True)

    def test_one_place_and_several_pieces(self):
        for thing in ODD + ((), ((),), (((1,),), ((),))):
            self.assertIs(is_all_least(Web(1, ()), thing, thing), False)
            self.assertIs(is_all_least(Web(2, ()), thing, thing), False)
        self.assertIs(is_all_least(Web(1, ()), ((0,),), ()), False)
        self.assertIs(is_all_least(Web(2, ()), ((1,),), ((),)), False)
        web = whole(3, [(0, 1, 1)])
        self.assertIs(is_all_least(web, ((2,),), in_order(web, pushed_flow)), False)

    def test_things_of_any_kind(self):
        for thing in ODD + (0, "x", ()):
            self.assertIs(is_all_least(SQUARE, thing, PAPER), False)
            self.assertIs(is_all_least(SQUARE, ARCS, thing), False)
            self.assertIs(is_all_least(SQUARE, thing, thing), False)
            for k in range(3):
                self.assertIs(is_all_least(SQUARE, replaced(ARCS, k, thing), PAPER), False)
                self.assertIs(is_all_least(SQUARE, ARCS, replaced(PAPER, k, thing)), False)

    def test_where_it_is_true_they_are_all(self):
        for web in in_one_piece(made_webs(103, (4, 5), 10)):
            self.assertIs(is_all_least(web, least_sides(web), all_paper(web)), True)
            weights = {weight_of(web, side) for side in all_sides(web.many)}
            for weight in weights - {least_of_sides(web)}:
                sides = sorted(side for side in all_sides(web.many) if 0 not in side and weight_of(web, side) == weight)
                self.assertIs(is_all_least(web, sides, all_paper(web)), False)

    def test_nothing_handed_in_is_changed(self):
        sides, paper = as_lists(ARCS), as_lists(PAPER)
        is_all_least(SQUARE, sides, paper)
        self.assertEqual((sides, paper), (as_lists(ARCS), as_lists(PAPER)))

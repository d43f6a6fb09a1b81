"""[8]: sides, their weights, all other places."""

from cutstree.errors import NoSide
from cutstree.sides import apart_from_nought, is_side, others, side_weight
from cutstree.webs import Web
from tests.seeking import all_sides, amount, weight_of
from tests.things import ODD, Case, made_web, numbers

WEB = Web(4, [(0, 1, (1, 1)), (0, 3, (1, 2)), (1, 2, (5, 12)), (2, 3, (4, 1))])
NO_SIDES = ODD + (
    (), [], (0, 1, 2, 3), [0, 1, 2, 3], (1, 0), [2, 1], (0, 2, 1), (1, 1), [0, 0], (0, 1, 1), (4,), (0, 4), (-1,),
    (-1, 0), (True,), (False,), [0, True], (False, 1), (0, 1, None), ((0,), (1,)), ((0,),), ("0",), "0", 0, 1, 3,
    {0: 1}, (0, 10 ** 30), [0, [1]], (0, 1, 2, 3, 3), [0, 1, 2, 3, 4], {},
)


class Sides(Case):
    def test_every_side(self):
        for side in all_sides(4):
            self.assertIs(is_side(WEB, side), True)
            self.assertIs(is_side(WEB, list(side)), True)

    def test_no_sides(self):
        for thing in NO_SIDES:
            self.assertIs(is_side(WEB, thing), False)

    def test_no_side_is_refused(self):
        for thing in NO_SIDES:
            for call in (side_weight, others, apart_from_nought):
                self.refuses(NoSide, call, WEB, thing)

    def test_one_place_has_no_side(self):
        web = Web(1, ())
        for thing in ((), (0,), (1,), None):
            self.assertIs(is_side(web, thing), False)
            for call in (side_weight, others, apart_from_nought):
                self.refuses(NoSide, call, web, thing)

    def test_forty_places(self):
        web = Web(40, [(0, place, (1, 1)) for place in range(1, 40)])
        self.assertIs(is_side(web, tuple(range(39))), True)
        self.assertIs(is_side(web, list(range(40))), False)
        self.tells(side_weight(web, list(range(1, 40))), (39, 1))
        self.tells(others(web, (39,)), tuple(range(39)))

    def test_weights_by_hand(self):
        self.tells(side_weight(WEB, (0,)), (3, 2))
        self.tells(side_weight(WEB, [1]), (17, 12))
        self.tells(side_weight(WEB, (0, 1)), (11, 12))
        self.tells(side_weight(WEB, (0, 2)), (71, 12))
        self.tells(side_weight(WEB, (0, 1, 2)), (9, 2))
        self.tells(side_weight(Web(3, [(0, 1, (1, 1))]), (2,)), (0, 1))

    def test_a_weight_above_all_weights(self):
        web = Web(3, [(0, 1, (10 ** 12, 1)), (0, 2, (10 ** 12, 1))])
        self.tells(side_weight(web, (0,)), (2 * 10 ** 12, 1))

    def test_weights_of_every_side(self):
        source = numbers(11)
        for many in range(2, 7):
            web = made_web(many, source)
            for side in all_sides(many):
                self.tells(side_weight(web, side), amount(weight_of(web, side)))
                self.tells(side_weight(web, others(web, side)), side_weight(web, list(side)))

    def test_others(self):
        self.tells(others(WEB, [1, 3]), (0, 2))
        self.tells(others(WEB, (0,)), (1, 2, 3))
        for side in all_sides(4):
            self.tells(others(WEB, others(WEB, side)), side)

    def test_apart_from_nought(self):
        self.tells(apart_from_nought(WEB, [0, 2]), (1, 3))
        self.tells(apart_from_nought(WEB, [1, 3]), (1, 3))
        self.tells(apart_from_nought(WEB, (1, 2, 3)), (1, 2, 3))
        self.tells(apart_from_nought(WEB, (0,)), (1, 2, 3))

    def test_nothing_handed_in_is_changed(self):
        side = [0, 2]
        is_side(WEB, side), side_weight(WEB, side), others(WEB, side), apart_from_nought(WEB, side)
        self.assertEqual(side, [0, 2])

"""[9]: ends, flows and their worth."""

from cutstree.errors import NoFlow, NoPlace
from cutstree.flows import are_ends, flow_worth, is_flow
from cutstree.webs import Web
from tests.seeking import all_ends
from tests.things import ODD, Case, as_lists

ONE = (1, 1)
WEB = Web(5, [(0, 1, ONE), (0, 2, (3, 2)), (1, 2, (1, 2)), (1, 3, (2, 1)), (2, 3, ONE), (3, 4, (1, 3))])
RIGHT = ((0, 1, ONE), (0, 2, ONE), (1, 3, ONE), (2, 3, ONE))
NO_ENDS = ODD + (
    (), [], (1, 0), (2, 2), [0, 0], (5,), (0, 5), (-1,), (True,), (False,), (0, None), ((0,),), ("0",), "0", 0, 1, 4,
    {0: 0}, {},
)
# Not one of these is a flow from 0 to 3.
NO_FLOWS = {
    "nought": ((0, 1, ONE), (0, 2, (0, 1)), (1, 3, ONE)),
    "nought alone": ((0, 1, (0, 1)),),
    "nought without a tie": ((0, 4, (0, 1)),),
    "below nought": ((0, 1, (-1, 1)), (1, 3, (-1, 1))),
    "not in least terms": ((0, 1, (2, 2)), (1, 3, (2, 2))),
    "below 13": ((0, 1, (1, 13)), (1, 3, (1, 13))),
    "below 32": ((0, 1, (1, 32)), (1, 3, (1, 32))),
    "below 110880": ((0, 1, (1, 110880)), (1, 3, (1, 110880))),
    "above its tie": ((0, 1, (3, 2)), (1, 3, (3, 2))),
    "a little above its tie": ((0, 1, (55441, 55440)), (1, 3, (55441, 55440))),
    "above its tie backwards": ((0, 2, ONE), (1, 3, ONE), (2, 1, ONE)),
    "no tie": ((0, 3, ONE),),
    "a row twice": ((0, 1, (1, 2)), (0, 1, (1, 2)), (1, 3, ONE)),
    "two rows of two places": ((0, 1, (1, 3)), (0, 1, (2, 3)), (1, 3, ONE)),
    "both directions": ((0, 1, ONE), (1, 0, (1, 2)), (1, 3, (1, 2))),
    "both directions apart": ((0, 1, ONE), (1, 0, ONE), (2, 3, (1, 2)), (3, 2, (1, 2))),
    "to itself": ((0, 0, ONE), (0, 1, ONE), (1, 3, ONE)),
    "to itself between": ((0, 1, ONE), (1, 1, ONE), (1, 3, ONE)),
    "not rising": (RIGHT[1], RIGHT[0], RIGHT[2], RIGHT[3]),
    "not rising at the end": (RIGHT[0], RIGHT[1], RIGHT[3], RIGHT[2]),
    "one row missing": RIGHT[:3],
    "out of balance": ((0, 1, ONE), (1, 3, (1, 2))),
    "more out than in": ((0, 1, (1, 2)), (1, 3, ONE)),
    "into a place beside": RIGHT + ((3, 4, (1, 3)),),
    "backwards": ((1, 0, ONE), (3, 1, ONE)),
    "more into the from than out": ((0, 1, (1, 3)), (1, 3, (1, 3)), (2, 0, ONE), (3, 2, ONE)),
    "a little more into the from than out":
        ((0, 1, (1, 3)), (1, 3, (1, 3)), (2, 0, (18481, 55440)), (3, 2, (18481, 55440))),
    "a place beyond": ((0, 1, ONE), (1, 3, ONE), (3, 5, ONE)),
    "a place below": ((-1, 1, ONE), (1, 3, ONE)),
    "a truth for a place": ((0, True, ONE), (1, 3, ONE)),
    "a truth for nought": ((False, 1, ONE), (1, 3, ONE)),
    "a truth above": ((0, 1, (True, 1)), (1, 3, ONE)),
    "a truth below": ((0, 1, (1, True)), (1, 3, ONE)),
    "a number for an amount": ((0, 1, 1), (1, 3, 1)),
    "a text for an amount": ((0, 1, "11"), (1, 3, "11")),
    "a short row": ((0, 1), (1, 3)),
    "a long row": ((0, 1, ONE, 0), (1, 3, ONE)),
    "a row of no row": (0, 1, ONE),
    "a dict for a row": ({0: 0, 1: 1, 2: ONE}, (1, 3, ONE)),
    "great numbers": ((0, 1, (10 ** 50, 1)), (1, 3, (10 ** 50, 1))),
    "great belows": ((0, 1, (1, 10 ** 50)), (1, 3, (1, 10 ** 50))),
}


class Ends(Case):
    def test_every_two(self):
        web = Web(4, ())
        right = set(all_ends(4))
        rows = sorted({froms for froms, tos in right} | {(), (0, 1, 2, 3)})
        for froms in rows:
            for tos in rows:
                self.assertIs(are_ends(web, froms, tos), (froms, tos) in right, (froms, tos))
                self.assertIs(are_ends(web, list(froms), tos), (froms, tos) in right)
                self.assertIs(are_ends(web, froms, list(tos)), (froms, tos) in right)

    def test_no_ends(self):
        for thing in NO_ENDS:
            self.assertIs(are_ends(WEB, thing, (3,)), False)
            self.assertIs(are_ends(WEB, (3,), thing), False)
            self.assertIs(are_ends(WEB, thing, thing), False)
        self.assertIs(are_ends(WEB, (0, 1), (1, 2)), False)
        self.assertIs(are_ends(WEB, [0], [0]), False)

    def test_one_place_has_no_ends(self):
        self.assertIs(are_ends(Web(1, ()), (0,), (0,)), False)
        self.assertIs(are_ends(Web(1, ()), (0,), ()), False)

    def test_no_place_ahead_of_all(self):
        for thing in NO_ENDS:
            for flow in ((), None, [None], RIGHT, "x", {}):
                for call in (is_flow, flow_worth):
                    self.refuses(NoPlace, call, WEB, thing, (3,), flow)
                    self.refuses(NoPlace, call, WEB, (3,), thing, flow)
        for call in (is_flow, flow_worth):
            self.refuses(NoPlace, call, WEB, (0, 1), (1, 2), RIGHT)


class Flows(Case):
    def right(self, froms, tos, flow, worth, web=WEB):
        for one in (flow, as_lists(flow), list(flow), tuple(as_lists(flow))):
            self.assertIs(is_flow(web, froms, tos, one), True, one)
            self.assertIs(is_flow(web, list(froms), list(tos), one), True, one)
            self.tells(flow_worth(web, froms, tos, one), worth)

    def wrong(self, froms, tos, flow, web=WEB):
        for one in (flow, as_lists(flow)):
            self.assertIs(is_flow(web, froms, tos, one), False, one)
            self.refuses(NoFlow, flow_worth, web, froms, tos, one)

    def test_no_rows(self):
        for froms, tos in all_ends(5):
            self.right(froms, tos, (), (0, 1))
        self.right((0,), (1,), (), (0, 1), Web(2, ()))

    def test_a_way(self):
        self.right((0,), (1,), ((0, 1, (1, 55440)),), (1, 55440))
        self.right((0,), (4,), ((0, 1, (1, 3)), (1, 3, (1, 3)), (3, 4, (1, 3))), (1, 3))
        self.right((4,), (0,), ((1, 0, (1, 4)), (3, 1, (1, 4)), (4, 3, (1, 4))), (1, 4))
        self.right((0,), (3,), RIGHT, (2, 1))

    def test_as_much_as_the_tie(self):
        self.right((0,), (2,), ((0, 2, (3, 2)),), (3, 2))
        self.wrong((0,), (2,), ((0, 2, (83161, 55440)),))

    def test_the_worth_in_least_terms(self):
        flow = ((0, 1, (1, 6)), (0, 2, (1, 3)), (1, 3, (1, 6)), (2, 3, (1, 3)))
        self.right((0,), (3,), flow, (1, 2))

    def test_above_the_greatest_weight(self):
        web = Web(2, [(0, 1, (10 ** 12, 1))])
        self.right((0,), (1,), ((0, 1, (55440 * 10 ** 12 - 1, 55440)),), (55440 * 10 ** 12 - 1, 55440), web)
        self.wrong((0,), (1,), ((0, 1, (55440 * 10 ** 12 + 1, 55440)),), web)

    def test_what_goes_round(self):
        self.right((0,), (4,), ((1, 2, (1, 2)), (2, 3, (1, 2)), (3, 1, (1, 2))), (0, 1))
        self.right((0,), (4,), ((1, 3, (1, 2)), (2, 1, (1, 2)), (3, 2, (1, 2))), (0, 1))

    def test_round_through_a_from(self):
        self.right((0,), (3,), ((0, 1, (1, 2)), (1, 2, (1, 2)), (2, 0, (1, 2))), (0, 1))
        self.right((0,), (3,), ((0, 1, ONE), (1, 2, (1, 2)), (1, 3, (1, 2)), (2, 0, (1, 2))), (1, 2))

    def test_round_through_a_to(self):
        flow = ((0, 1, ONE), (1, 3, (3, 2)), (2, 1, (1, 2)), (3, 2, (1, 2)))
        self.right((0,), (3,), flow, ONE)

    def test_several_ends(self):
        self.right((0, 1), (2, 3), ((0, 2, ONE), (1, 3, ONE)), (2, 1))
        self.right((0, 1), (3,), ((0, 1, ONE), (1, 3, (1, 2))), (1, 2))
        self.right((0, 1), (4,), ((0, 1, ONE),), (0, 1))
        self.right((0,), (3, 4), ((0, 1, ONE), (1, 3, ONE), (3, 4, (1, 3))), ONE)
        self.right((0, 2), (3,), ((0, 2, ONE), (2, 3, ONE)), ONE)
        self.right((0, 1), (2, 3), ((0, 2, ONE), (2, 1, (1, 2))), (1, 2))
        self.wrong((0, 1), (2, 3), ((2, 1, (1, 2)),))
        self.wrong((0, 1), (3, 4), ((0, 2, ONE), (2, 1, (1, 2))))

    def test_just_as_much_into_the_froms_as_out(self):
        self.right((0,), (3,), ((0, 1, (1, 3)), (1, 3, (1, 3)), (2, 0, (1, 3)), (3, 2, (1, 3))), (0, 1))

    def test_a_row_bent(self):
        for name, flow in NO_FLOWS.items():
            with self.subTest(name):
                self.wrong((0,), (3,), flow)

    def test_what_is_bent_is_right_unbent(self):
        self.right((3,), (0,), NO_FLOWS["backwards"], ONE)
        self.right((3,), (0,), NO_FLOWS["more into the from than out"], (2, 3))
        self.right((0,), (1,), ((0, 1, ONE), (1, 2, (1, 2)), (2, 3, (1, 2)), (3, 1, (1, 2))), ONE)
        self.right((0,), (1, 3), NO_FLOWS["out of balance"], ONE)

    def test_things_of_any_kind(self):
        for thing in ODD + (5, 0, "flow", {0: (0, 1, ONE)}, {}):
            self.assertIs(is_flow(WEB, (0,), (3,), thing), False)
            self.refuses(NoFlow, flow_worth, WEB, (0,), (3,), thing)
        for thing in ODD + ((), [], (2, 2), (0, 1)):
            for row in (thing, (thing, 1, ONE), (0, thing, ONE), (0, 1, thing), (0, 1, (thing, 1)), (0, 1, (1, thing))):
                self.assertIs(is_flow(WEB, (0,), (1,), [row]), False)
                self.refuses(NoFlow, flow_worth, WEB, (0,), (1,), [row])

    def test_nothing_handed_in_is_changed(self):
        froms, tos, flow = [0], [3], as_lists(RIGHT)
        is_flow(WEB, froms, tos, flow), flow_worth(WEB, froms, tos, flow), are_ends(WEB, froms, tos)
        self.assertEqual((froms, tos, flow), ([0], [3], as_lists(RIGHT)))

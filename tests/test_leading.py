"""[27]: loose flows led on to greatest flows."""

from cutstree.amounts import from_parts, parts, plus
from cutstree.changes import changed
from cutstree.errors import NoFlow, NoPlace
from cutstree.flows import flow_worth, is_flow
from cutstree.leading import led_flow
from cutstree.pushing import pushed_flow
from cutstree.shortest import shortest_flow
from cutstree.webs import Web
from tests.seeking import all_ends, amount, least_between_ends
from tests.shapes import SOME, full, great_webs, made_webs, path, ring, rows, small_webs, whole
from tests.things import ODD, Case, as_lists, numbers

WEB = whole(4, [(0, 1, 3), (0, 2, 1), (1, 2, 2), (2, 3, 2)])
HUGE = 10 ** 40


def loose(ways):
    """The loose flow of ways (places, 55,440ths), one upon the other; what is brought back is taken off."""
    brought = {}
    for places, much in ways:
        for here, there in zip(places, places[1:]):
            brought[here, there] = brought.get((here, there), 0) + much
            brought[there, here] = -brought[here, there]
    return tuple((i, j, from_parts(more)) for (i, j), more in sorted(brought.items()) if more > 0)


def made_loose(many, froms, tos, source, steps):
    """A loose flow along ways that the source makes, with rounds among them, of small and great amounts."""
    ways = []
    for step in range(steps):
        much = (1, 55440, 27720, 55440 * 10 ** 6, HUGE)[next(source) % 5]
        inner = [place for place in range(many) if place not in froms and place not in tos and next(source) % 2]
        start, end = froms[next(source) % len(froms)], tos[next(source) % len(tos)]
        if step % 3 == 2 and len(inner) > 2:
            ways.append((inner + inner[:1], much))
        elif step % 7 == 4:
            ways += [([start, end], much), ([end] + inner + [start], much)]
        else:
            ways.append(([start] + inner + [end], much))
    return loose(ways)


class Led(Case):
    def led(self, web, froms, tos, flow):
        """The flow led on, looked at."""
        told = led_flow(web, froms, tos, flow)
        self.tells(told, told)
        self.assertIs(is_flow(web, froms, tos, told), True, (web.ties, froms, tos, flow))
        worth = flow_worth(web, froms, tos, told)
        self.assertEqual(worth, flow_worth(web, froms, tos, pushed_flow(web, froms, tos)))
        self.assertEqual(led_flow(web, list(froms), list(tos), as_lists(flow)), told)
        return worth

    def test_by_hand(self):
        self.tells(led_flow(WEB, (0,), (3,), rows([(0, 2, 5), (2, 3, 5)])), rows([(0, 1, 1), (0, 2, 1), (1, 2, 1), (2, 3, 2)]))
        self.tells(led_flow(WEB, (2,), (3,), rows([(2, 3, 9)])), rows([(2, 3, 2)]))
        self.tells(led_flow(WEB, (2,), (3,), ()), rows([(2, 3, 2)]))

    def test_a_greatest_flow_stays(self):
        for web in small_webs()[::3] + great_webs()[::3]:
            flow = shortest_flow(web, (0,), (web.many - 1,))[0]
            self.tells(led_flow(web, (0,), (web.many - 1,), flow), flow)

    def test_where_there_is_no_tie(self):
        for flow in (rows([(0, 3, 5)]), rows([(0, 3, HUGE)]), rows([(0, 1, 2), (1, 3, 2)]), ((0, 3, (1, 55440)),)):
            self.assertEqual(self.led(WEB, (0,), (3,), flow), (2, 1))
            self.tells(led_flow(Web(4, ()), (0,), (3,), flow), ())

    def test_rounds_that_meet_no_end(self):
        for much in ((1, 2), (1, 1), (3, 1), (HUGE, 1)):
            for flow in (((1, 2, much), (2, 4, much), (4, 1, much)), ((1, 4, much), (2, 1, much), (4, 2, much))):
                self.assertEqual(self.led(full(6), (0,), (5,), flow), (5, 1))
                self.led(path(6), (0,), (5,), flow)
                self.led(ring(6, SOME), (0, 3), (5,), flow)

    def test_a_round_through_the_ends(self):
        # Forth 5 where the tie bears 1, and 3 of it back by 1: what's left would be below nought, were it just cut.
        web = whole(3, [(0, 1, 3), (0, 2, 1), (1, 2, 3)])
        flow = rows([(0, 2, 5), (1, 0, 3), (2, 1, 3)])
        self.assertEqual(self.led(web, (0,), (2,), flow), (4, 1))

    def test_between_the_froms_and_between_the_tos(self):
        flow = rows([(0, 1, 7), (1, 4, 2), (3, 5, 9)])
        self.assertEqual(self.led(full(6), (0, 1), (3, 4, 5), flow), (8, 1))
        self.led(path(6), (0, 1), (3, 4, 5), flow)

    def test_much_that_is_taken_back(self):
        # A long way of which just the last tie is thin.
        web = whole(6, [(0, 1, 9), (1, 2, 9), (2, 3, 9), (3, 4, 9), (4, 5, 1)])
        flow = rows([(0, 1, 8), (1, 2, 8), (2, 3, 8), (3, 4, 8), (4, 5, 8)])
        self.tells(led_flow(web, (0,), (5,), flow), rows([(k, k + 1, 1) for k in range(5)]))

    def test_led_behind_a_change(self):
        for web in small_webs():
            last = web.many - 1
            flow = shortest_flow(web, (0,), (last,))[0]
            for i, j, weight in web.ties[:4]:
                for other in ((0, 1), (1, 55440), (10 ** 12, 1)):
                    self.led(changed(web, i, j, other), (0,), (last,), flow)

    def test_by_all_sides(self):
        source = numbers(67)
        for web in small_webs()[::2] + list(made_webs(71, (3, 4, 5), 4)):
            for froms, tos in list(all_ends(web.many))[::1 if web.many < 4 else 13]:
                for steps in (1, 5):
                    worth = self.led(web, froms, tos, made_loose(web.many, froms, tos, source, steps))
                self.assertEqual(worth, amount(least_between_ends(web, froms, tos)))

    def test_great_webs(self):
        source = numbers(73)
        for web in great_webs():
            for froms, tos in (((0,), (web.many - 1,)), ((1, 4), (0, 2, 3))):
                self.led(web, froms, tos, made_loose(web.many, froms, tos, source, 40))

    def test_nothing_handed_in_is_changed(self):
        froms, tos, flow = [0], [3], as_lists(rows([(0, 2, 5), (2, 3, 5)]))
        led_flow(WEB, froms, tos, flow)
        self.assertEqual((froms, tos, flow), ([0], [3], as_lists(rows([(0, 2, 5), (2, 3, 5)]))))


class Refused(Case):
    def test_no_loose_flow(self):
        bent = {
            "too little comes on": rows([(0, 1, 5), (1, 3, 4)]),
            "too much comes on": rows([(0, 1, 5), (1, 3, 6)]),
            "less than nothing goes out": rows([(1, 0, 5), (3, 1, 5)]),
            "not rising": rows([(1, 3, 5), (0, 1, 5)]),
            "two rows of two places": rows([(0, 1, 2), (0, 1, 3), (1, 3, 5)]),
            "one in each direction": rows([(0, 1, 6), (1, 0, 1), (1, 3, 5)]),
            "an amount of nought": rows([(0, 1, 5), (1, 2, 0), (1, 3, 5)]),
            "a below that doesn't divide": ((0, 3, (1, 13)),),
            "a below that is too great": ((0, 3, (1, 110880)),),
            "not in least terms": ((0, 3, (2, 2)),),
            "an amount below nought": ((0, 3, (-1, 1)),),
            "a place with itself": rows([(0, 0, 1)]),
            "a place beyond": rows([(0, 4, 1)]),
            "a truth": ((False, 3, (1, 1)),),
            "a short row": ((0, 3),),
            "a long row": ((0, 3, (1, 1), 0),),
            "a dict": {0: (0, 3, (1, 1))},
        }
        for name, flow in bent.items():
            with self.subTest(name):
                self.refuses(NoFlow, led_flow, WEB, (0,), (3,), flow)
                self.refuses(NoFlow, led_flow, WEB, [0], [3], as_lists(flow))
        told = led_flow(WEB, (1, 3), (0,), bent["less than nothing goes out"])
        self.assertEqual(flow_worth(WEB, (1, 3), (0,), told), (4, 1))

    def test_things_of_any_kind(self):
        for thing in ODD + (0, "x", (0, 3, (1, 1))):
            self.refuses(NoFlow, led_flow, WEB, (0,), (3,), thing)
            self.refuses(NoFlow, led_flow, WEB, (0,), (3,), ((0, 3, (5, 1)), thing))
            self.refuses(NoFlow, led_flow, WEB, (0,), (3,), ((0, 3, thing),))

    def test_no_place_ahead(self):
        for thing in ODD + ((), (4,), (1, 0), (2, 2), 0, "0", {0: 0}):
            for flow in ((), None, rows([(0, 3, 1)]), thing):
                self.refuses(NoPlace, led_flow, WEB, thing, (3,), flow)
                self.refuses(NoPlace, led_flow, WEB, (0,), thing, flow)
        self.refuses(NoPlace, led_flow, WEB, (0, 1), (1, 3), ())


class Still(Case):
    """That amounts of any size are loose, but no flow."""

    def test_loose_is_no_flow(self):
        flow = rows([(0, 2, 5), (2, 3, 5)])
        self.assertIs(is_flow(WEB, (0,), (3,), flow), False)
        more = plus((2, 1), (1, 55440))
        self.assertIs(is_flow(WEB, (2,), (3,), ((2, 3, more),)), False)
        self.assertEqual(parts(led_flow(WEB, (2,), (3,), ((2, 3, more),))[0][2]), 2 * 55440)

"""The interface: each module and each name is there, with as many arguments as it is told to have."""

import importlib
import inspect

from cutstree.desk import Desk
from cutstree.keeping import Kept
from cutstree.webs import Web
from tests.things import Case

DEFS = """
amounts: is_amount(thing), is_weight(thing), is_below(one, other), plus(one, other), less(one, other), half(one), total(amounts)
changes: changed(web, i, j, weight), with_place(web, ties), without_place(web, place)
pieces: pieces(web)
sides: is_side(web, side), side_weight(web, side), others(web, side), apart_from_nought(web, side)
flows: are_ends(web, froms, tos), is_flow(web, froms, tos, flow), flow_worth(web, froms, tos, flow)
cuts: is_least_cut(web, froms, tos, paper)
shortest: shortest_flow(web, froms, tos)
halving: halved_flow(web, froms, tos)
pushing: pushed_flow(web, froms, tos)
near: near_side(web, froms, tos, flow), far_side(web, froms, tos, flow), least_cut(web, froms, tos)
trees: is_tree(many, tree), tree_way(tree, i, j), tree_side(tree, k)
cuttrees: is_cut_tree(web, tree, paper), tree_paper(web, tree)
between: least_between(tree, i, j), all_between(tree)
drawn: drawn_tree(web)
plain: plain_tree(web)
wholes: least_by_tree(tree), least_of_all(web), is_least_of_all(web, paper), whole_paper(web)
allcuts: all_least(web), how_many_least(web), is_all_least(web, sides, paper), all_paper(web), firm(web)
charts: is_chart(many, chart), chart_sides(many, chart), is_least_chart(web, chart, paper)
charting: least_chart(web)
behind: told_behind(web, tree, i, j, weight)
leading: led_flow(web, froms, tos, flow)
ledtrees: led_tree(web, tree, i, j, weight)
disjoint: are_ways_apart(web, i, j, ways), is_fewest(web, i, j, paper), ways_apart(web, i, j), fewest_paper(web, i, j)
groups: is_apart(web, places, groups), groups_weight(web, places, groups), apart_by_tree(web, tree, places), least_apart(web, places)
demands: are_demands(many, demands), half_bound(many, demands), meeting_web(many, demands)
demands: meets(web, demands, tree, paper), is_least_web(web, demands, tree, paper)
texts: show_web(web), show_tree(tree), show_flow(flow), show_sides(sides)
texts: read_web(text), read_tree(text), read_flow(text), read_sides(text)
"""
METHODS = """
webs: Web(many, ties), tie(i, j)
keeping: Kept(web), change(i, j, weight), come(ties), go(place)
desk: Desk(web), change(i, j, weight), come(ties), go(place), back(), cut(i, j), least(), paper(i, j)
"""


def told(text):
    """(module, [(name, arguments)]) of each row."""
    for row in text.strip().split("\n"):
        module, calls = row.split(": ")
        parted = [call.rstrip(")").split("(") for call in calls.split("), ")]
        yield module, [(name, [one for one in names.split(", ") if one]) for name, names in parted]


def module(name):
    return importlib.import_module("cutstree." + name)


class Interface(Case):
    def test_defs(self):
        for name, calls in told(DEFS):
            for call, arguments in calls:
                found = getattr(module(name), call)
                self.assertEqual(list(inspect.signature(found).parameters), arguments, call)
                self.assertEqual(found.__module__, "cutstree." + name)

    def test_classes(self):
        for name, ((kind, arguments), *methods) in told(METHODS):
            found = getattr(module(name), kind)
            self.assertEqual(list(inspect.signature(found).parameters), arguments)
            for method, names in methods:
                self.assertEqual(list(inspect.signature(getattr(found, method)).parameters)[1:], names, method)

    def test_values(self):
        web = Web(2, ((0, 1, (3, 1)),))
        self.tells((web.many, web.ties), (2, ((0, 1, (3, 1)),)))
        kept, desk = Kept(web), Desk(web)
        self.tells((kept.web.ties, kept.tree, kept.asked), (web.ties, ((0, 1, (3, 1)),), 1))
        self.tells((desk.web.ties, desk.tree), (web.ties, ((0, 1, (3, 1)),)))

    def test_numbers(self):
        self.tells((module("amounts").MOST_ABOVE, module("amounts").BELOW), (10 ** 12, 55440))
        self.tells(module("webs").MOST_PLACES, 40)

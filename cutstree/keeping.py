"""A web that is kept together with a cut tree of it, whatever changes."""

from cutstree.changes import changed, with_place, without_place
from cutstree.drawn import drawn_tree
from cutstree.ledtrees import led_tree, tree_with_last


class Kept:
    """A web, a cut tree of it, and how many flows all has taken so far."""

    def __init__(self, web):
        self.web = web
        self.tree, self.asked = drawn_tree(web)

    def change(self, i, j, weight):
        return self.lead_on(behind_change(self.web, self.tree, i, j, weight))

    def come(self, ties):
        return self.lead_on(behind_coming(self.web, self.tree, ties))

    def go(self, place):
        return self.lead_on(behind_going(self.web, place))

    def lead_on(self, led):
        self.web, self.tree, took = led
        self.asked += took
        return took


def behind_change(web, tree, i, j, weight):
    """(web, tree, how many flows it took) behind the change of a weight."""
    after = changed(web, i, j, weight)
    led, took = led_tree(web, tree, i, j, weight)
    return (after, led, took)


def behind_coming(web, tree, ties):
    """The same behind the coming of a place."""
    after = with_place(web, ties)
    led, took = tree_with_last(after, tree)
    return (after, led, took)


def behind_going(web, place):
    """The same behind the going of a place: all of its ties fall at once, so hardly a row would be sure to stay."""
    after = without_place(web, place)
    led, took = drawn_tree(after)
    return (after, led, took)

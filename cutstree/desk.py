"""A desk: a web and a cut tree of it that are led on, and go back again."""

from cutstree.between import least_between
from cutstree.drawn import drawn_tree
from cutstree.errors import NotThere, TooMany
from cutstree.keeping import behind_change, behind_coming, behind_going
from cutstree.near import least_cut
from cutstree.wholes import least_by_tree

MOST_BACK = 60


class Desk:
    """A web, a cut tree of it, and what they were ahead of each deed that can be taken back."""

    def __init__(self, web):
        self.web = web
        self.tree = drawn_tree(web)[0]
        self.ahead = []

    def change(self, i, j, weight):
        self.refuse_one_more()
        return self.lead_on(behind_change(self.web, self.tree, i, j, weight))

    def come(self, ties):
        self.refuse_one_more()
        return self.lead_on(behind_coming(self.web, self.tree, ties))

    def go(self, place):
        self.refuse_one_more()
        return self.lead_on(behind_going(self.web, place))

    def back(self):
        if not self.ahead:
            raise NotThere()
        self.web, self.tree = self.ahead.pop()
        return len(self.ahead)

    def cut(self, i, j):
        return least_between(self.tree, i, j)

    def paper(self, i, j):
        return least_cut(self.web, (i,), (j,))

    def least(self):
        return least_by_tree(self.tree)

    def refuse_one_more(self):
        if len(self.ahead) == MOST_BACK:
            raise TooMany(MOST_BACK)

    def lead_on(self, led):
        self.ahead.append((self.web, self.tree))
        self.web, self.tree, took = led
        return took

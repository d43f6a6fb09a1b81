"""[28]: cut trees led on when a weight changes."""

from itertools import combinations

from cutstree.changes import changed
from cutstree.cuttrees import is_cut_tree, tree_paper
from cutstree.drawn import drawn_tree
from cutstree.errors import NoPlace, NoTree, NoWeight
from cutstree.ledtrees import led_tree
from cutstree.plain import plain_tree
from cutstree.trees import tree_side
from cutstree.webs import Web
from tests.seeking import amount, fraction, is_cut_tree_of, side_of_row, way_of_rows
from tests.shapes import SOME, full, great_webs, ladder, made_webs, necklace, path, ring, rows, small_webs, whole
from tests.test_behind import NO_PLACES, NO_WEIGHTS, PATH, PATH_TREE, other_weights
from tests.things import ODD, Case, as_lists, numbers


def asked_by_words(web, tree, i, j, weight):
    """(how many flows, rows that stay as (side, amount)) by the words of the promise."""
    between = way_of_rows(tree, i, j)
    amounts = [fraction(row[2]) for row in tree]
    least = min(amounts[k] for k in between)
    fall = fraction(web.tie(i, j)) - fraction(weight)
    if fall == 0:
        asked = []
    elif fall < 0:
        asked = list(between)
    else:
        asked = [k for k in range(len(tree)) if k not in between and amounts[k] > least - fall]
    less = [amounts[k] - fall if fall > 0 and k in between else amounts[k] for k in range(len(tree))]
    return len(asked), [(side_of_row(tree, k), amount(less[k])) for k in range(len(tree)) if k not in asked]


class Led(Case):
    def led(self, web, tree, i, j, weight):
        """The tree led on, looked at."""
        told = led_tree(web, tree, i, j, weight)
        asked, stays = asked_by_words(web, tree, i, j, weight)
        self.tells(told, (told[0], asked))
        after = changed(web, i, j, weight)
        self.assertIs(is_cut_tree(after, told[0], tree_paper(after, told[0])), True)
        have = [(tree_side(told[0], k), row[2]) for k, row in enumerate(told[0])]
        self.assertEqual([row for row in stays if row not in have], [], (web.ties, tree, i, j, weight))
        return told[0]

    def test_as_it_was(self):
        for tree in (PATH_TREE, as_lists(PATH_TREE), list(PATH_TREE)):
            self.tells(led_tree(PATH, tree, 1, 2, [2, 1]), (PATH_TREE, 0))
            self.tells(led_tree(PATH, tree, 3, 0, (0, 1)), (PATH_TREE, 0))

    def test_risen(self):
        self.tells(led_tree(PATH, PATH_TREE, 1, 2, (3, 1)), (rows([(0, 1, 5), (1, 2, 3), (2, 3, 4)]), 1))
        self.tells(led_tree(PATH, as_lists(PATH_TREE), 2, 1, [30, 1]), (rows([(0, 1, 5), (1, 2, 30), (2, 3, 4)]), 1))
        self.assertEqual(led_tree(PATH, PATH_TREE, 3, 0, (1, 1))[1], 3)
        self.assertEqual(led_tree(PATH, PATH_TREE, 0, 2, (1, 1))[1], 2)

    def test_fallen(self):
        self.tells(led_tree(PATH, PATH_TREE, 2, 1, (1, 1)), (rows([(0, 1, 5), (1, 2, 1), (2, 3, 4)]), 2))
        self.led(PATH, PATH_TREE, 1, 2, (0, 1))
        self.assertEqual(led_tree(PATH, PATH_TREE, 1, 2, (0, 1))[1], 2)
        self.tells(led_tree(PATH, PATH_TREE, 0, 1, (4, 1)), (rows([(0, 1, 4), (1, 2, 2), (2, 3, 4)]), 0))
        self.tells(led_tree(PATH, PATH_TREE, 0, 1, (3, 1)), (rows([(0, 1, 3), (1, 2, 2), (2, 3, 4)]), 1))
        self.tells(led_tree(PATH, PATH_TREE, 0, 1, (1, 1)), (rows([(0, 1, 1), (1, 2, 2), (2, 3, 4)]), 2))

    def test_two_places(self):
        tree = ((0, 1, (3, 1)),)
        self.tells(led_tree(whole(2, [(0, 1, 3)]), tree, 1, 0, (7, 2)), (((0, 1, (7, 2)),), 1))
        self.tells(led_tree(whole(2, [(0, 1, 3)]), tree, 1, 0, (5, 2)), (((0, 1, (5, 2)),), 0))
        self.tells(led_tree(whole(2, [(0, 1, 3)]), tree, 0, 1, (0, 1)), (((0, 1, (0, 1)),), 0))
        self.tells(led_tree(Web(2, ()), ((0, 1, (0, 1)),), 0, 1, (10 ** 12, 1)), (((0, 1, (10 ** 12, 1)),), 1))

    def test_rows_that_stay_between_other_places(self):
        # The tie 0-3 makes 0 and 3 near; whatever hung on the way between them must still be told.
        moved = 0
        for web in (ladder(8, SOME), path(9, SOME), necklace(10)):
            tree = plain_tree(web)[0]
            for i, j in combinations(range(web.many), 2):
                told = self.led(web, tree, i, j, (50, 1))
                kept = {row[:2] for row in told} & {row[:2] for row in tree}
                moved += len(kept) < len(tree) - len(way_of_rows(tree, i, j))
        self.assertGreater(moved, 3)

    def test_small_webs(self):
        for web in small_webs()[::3] + list(made_webs(157, (2, 3, 4, 5), 3)):
            for tree in {drawn_tree(web)[0], plain_tree(web)[0]}:
                for i, j in list(combinations(range(web.many), 2))[::2]:
                    for weight in other_weights(web, i, j):
                        told = self.led(web, tree, j, i, weight)
                        self.assertTrue(is_cut_tree_of(changed(web, i, j, weight), told))

    def test_great_webs(self):
        for at, web in enumerate(great_webs()):
            tree = drawn_tree(web)[0]
            i, j = ((0, web.many - 1), (2, 5), (4, 1))[at % 3]
            for weight in other_weights(web, i, j)[:4]:
                self.led(web, tree, i, j, weight)

    def test_again_and_again(self):
        source = numbers(31)
        for web in (ring(7), full(6, SOME), necklace(8), Web(6, ())):
            tree = drawn_tree(web)[0]
            for step in range(25):
                i = next(source) % web.many
                j = (i + 1 + next(source) % (web.many - 1)) % web.many
                weight = ((0, 1), (1, 1), (2, 1), (1, 2), (5, 3), (1, 1), (7, 1))[next(source) % 7]
                tree = self.led(web, tree, i, j, weight)
                web = changed(web, i, j, weight)

    def test_nothing_handed_in_is_changed(self):
        tree, weight = as_lists(PATH_TREE), [1, 1]
        led_tree(PATH, tree, 1, 2, weight), led_tree(PATH, tree, 0, 3, weight)
        self.assertEqual((tree, weight, PATH.ties), (as_lists(PATH_TREE), [1, 1], PATH_TREE))


class Refused(Case):
    def test_no_place(self):
        for thing in NO_PLACES:
            for tree in (PATH_TREE, None, thing):
                self.refuses(NoPlace, led_tree, PATH, tree, thing, 1, (1, 1))
                self.refuses(NoPlace, led_tree, PATH, tree, 1, thing, thing)
        for place in range(4):
            self.refuses(NoPlace, led_tree, PATH, PATH_TREE, place, place, (1, 1))
        self.refuses(NoPlace, led_tree, Web(1, ()), (), 0, 0, (1, 1))

    def test_no_weight(self):
        for thing in NO_WEIGHTS:
            for tree in (PATH_TREE, None, thing):
                self.refuses(NoWeight, led_tree, PATH, tree, 0, 1, thing)

    def test_no_tree(self):
        for thing in ODD + (0, "x", (), PATH_TREE[:2], PATH_TREE[1:], PATH_TREE[::-1], PATH_TREE + PATH_TREE[2:]):
            for weight in ((2, 1), (1, 1), (9, 1)):
                self.refuses(NoTree, led_tree, PATH, thing, 1, 2, weight)
                self.refuses(NoTree, led_tree, PATH, PATH_TREE[:2] + (thing,), 1, 2, weight)
        self.refuses(NoTree, led_tree, full(5), PATH_TREE, 1, 2, (1, 1))
        self.refuses(NoTree, led_tree, full(3), PATH_TREE, 1, 2, (1, 1))

"""[26]: what a cut tree still tells when a weight changes."""

from itertools import combinations

from cutstree.amounts import half, plus
from cutstree.behind import told_behind
from cutstree.between import all_between
from cutstree.changes import changed
from cutstree.drawn import drawn_tree
from cutstree.errors import NoPlace, NoTree, NoWeight
from cutstree.plain import plain_tree
from cutstree.webs import Web
from tests.seeking import all_cuts, amount, fraction, way_of_rows
from tests.shapes import full, great_webs, made_webs, rows, small_webs, whole
from tests.things import ODD, Case, as_lists, is_told

# A path whose middle is thin, and its one cut tree; and a ring of five, one of whose trees is a path.
PATH = whole(4, [(0, 1, 5), (1, 2, 2), (2, 3, 4)])
PATH_TREE = rows([(0, 1, 5), (1, 2, 2), (2, 3, 4)])
NO_WEIGHTS = ODD + ((2, 2), (1, 13), (10 ** 12 + 1, 1), (-1, 1), (1,), (1, 1, 1), (True, 1), 1, 0)
NO_PLACES = ODD + (4, 5, (0,), [1], "1", {1: 1})


def other_weights(web, i, j):
    """The weight between two places as it was, risen a little and much, fallen a little, half and all."""
    before = web.tie(i, j)
    weights = [before, (0, 1), (10 ** 12, 1)]
    for weight in (plus(before, (1, 55440)), plus(before, (3, 2)), half(before), (max(before[0] - 1, 0), before[1])):
        weight = amount(fraction(weight))
        if 55440 % weight[1] == 0 and weight[0] <= 10 ** 12:
            weights.append(weight)
    return sorted(set(weights))


def told_by_words(web, tree, i, j, weight):
    """The rows by the words of the promise, with fractions."""
    between = way_of_rows(tree, i, j)
    least = min(fraction(tree[k][2]) for k in between)
    before, after = fraction(web.tie(i, j)), fraction(weight)
    found = []
    for u, v in [(u, v) for u in range(web.many) for v in range(u + 1, web.many)]:
        way = way_of_rows(tree, u, v)
        much = min(fraction(tree[k][2]) for k in way)
        thin = [k for k in way if fraction(tree[k][2]) == much]
        if after == before or (after > before and any(k not in between for k in thin)):
            found.append((u, v, amount(much)))
        if after < before and any(k in between for k in thin):
            found.append((u, v, amount(much - (before - after))))
        if after < before and much <= least - (before - after):
            found.append((u, v, amount(much)))
    return tuple(sorted(found))


class Told(Case):
    def test_as_it_was(self):
        for tree in (PATH_TREE, as_lists(PATH_TREE)):
            self.tells(told_behind(PATH, tree, 1, 2, [2, 1]), all_between(PATH_TREE))
            self.tells(told_behind(PATH, tree, 3, 0, (0, 1)), all_between(PATH_TREE))

    def test_risen(self):
        self.tells(told_behind(PATH, PATH_TREE, 1, 2, (3, 1)), rows([(0, 1, 5), (2, 3, 4)]))
        self.tells(told_behind(PATH, PATH_TREE, 2, 1, (100, 1)), rows([(0, 1, 5), (2, 3, 4)]))
        self.tells(told_behind(PATH, PATH_TREE, 0, 2, (1, 3)), rows([(2, 3, 4)]))
        self.tells(told_behind(PATH, PATH_TREE, 0, 3, (1, 3)), ())
        told = rows([(0, 2, 2), (0, 3, 2), (1, 2, 2), (1, 3, 2), (2, 3, 4)])
        self.tells(told_behind(PATH, PATH_TREE, 0, 1, (9, 1)), told)

    def test_risen_with_two_rows_of_the_least_amount(self):
        # On the way from 0 to 3 both 0-1 and 2-3 are of the least amount, and 2-3 doesn't lie between.
        web = whole(4, [(0, 1, 2), (1, 2, 3), (2, 3, 2)])
        told = rows([(0, 3, 2), (1, 2, 3), (1, 3, 2), (2, 3, 2)])
        self.tells(told_behind(web, web.ties, 0, 1, (5, 1)), told)

    def test_fallen(self):
        told = rows([(0, 2, 1), (0, 3, 1), (1, 2, 1), (1, 3, 1)])
        self.tells(told_behind(PATH, PATH_TREE, 2, 1, (1, 1)), told)
        told = rows([(0, 2, 0), (0, 3, 0), (1, 2, 0), (1, 3, 0)])
        self.tells(told_behind(PATH, PATH_TREE, 1, 2, (0, 1)), told)
        # 0-1 falls by 3 to 2: what is at most 2 stays as it was.
        told = rows([(0, 1, 2), (0, 2, 2), (0, 3, 2), (1, 2, 2), (1, 3, 2)])
        self.tells(told_behind(PATH, PATH_TREE, 0, 1, (2, 1)), told)
        told = rows([(0, 1, 4), (0, 2, 2), (0, 3, 2), (1, 2, 2), (1, 3, 2), (2, 3, 4)])
        self.tells(told_behind(PATH, PATH_TREE, 0, 1, (4, 1)), told)
        self.tells(told_behind(PATH, PATH_TREE, 0, 1, (1, 1)), rows([(0, 1, 1)]))

    def test_by_all_sides(self):
        seen = {"all": 0, "some": 0, "none": 0}
        for web in small_webs()[::2] + list(made_webs(149, (2, 3, 4, 5), 5)):
            tree = drawn_tree(web)[0]
            for i, j in combinations(range(web.many), 2):
                for weight in other_weights(web, i, j):
                    told = told_behind(web, tree, i, j, weight)
                    self.tells(told, told_by_words(web, tree, i, j, weight))
                    self.tells(told_behind(web, as_lists(tree), j, i, list(weight)), told)
                    cuts = all_cuts(changed(web, i, j, weight))
                    for u, v, much in told:
                        self.assertEqual(fraction(much), cuts[u, v], (web.ties, tree, i, j, weight))
                    pairs = web.many * (web.many - 1) // 2
                    seen["all" if len(told) == pairs else "some" if told else "none"] += 1
        self.assertGreater(min(seen.values()), 50, seen)

    def test_great_webs(self):
        for at, web in enumerate(great_webs()):
            tree = plain_tree(web)[0]
            i, j = ((0, web.many - 1), (3, 2), (1, 5))[at % 3]
            for weight in other_weights(web, i, j)[::2]:
                told = told_behind(web, tree, i, j, weight)
                self.assertTrue(is_told(told))
                cuts = {row[:2]: row for row in all_between(drawn_tree(changed(web, i, j, weight))[0])}
                for row in told:
                    self.assertEqual(row, cuts[row[:2]])

    def test_nothing_handed_in_is_changed(self):
        tree, weight = as_lists(PATH_TREE), [1, 1]
        told_behind(PATH, tree, 1, 2, weight)
        self.assertEqual((tree, weight, PATH.ties), (as_lists(PATH_TREE), [1, 1], PATH_TREE))


class Refused(Case):
    def test_no_place(self):
        for thing in NO_PLACES:
            for tree in (PATH_TREE, None, thing):
                self.refuses(NoPlace, told_behind, PATH, tree, thing, 1, (1, 1))
                self.refuses(NoPlace, told_behind, PATH, tree, 1, thing, (1, 1))
                self.refuses(NoPlace, told_behind, PATH, tree, thing, thing, thing)
        for place in range(4):
            self.refuses(NoPlace, told_behind, PATH, PATH_TREE, place, place, (1, 1))
        self.refuses(NoPlace, told_behind, Web(1, ()), (), 0, 0, (1, 1))

    def test_no_weight(self):
        for thing in NO_WEIGHTS:
            for tree in (PATH_TREE, None, thing):
                self.refuses(NoWeight, told_behind, PATH, tree, 0, 1, thing)
                self.refuses(NoWeight, told_behind, PATH, tree, 3, 0, thing)

    def test_no_tree(self):
        for thing in ODD + (0, "x", (), PATH_TREE[:2], PATH_TREE[1:], PATH_TREE[::-1], PATH_TREE + PATH_TREE[2:]):
            for weight in ((2, 1), (1, 1), (9, 1)):
                self.refuses(NoTree, told_behind, PATH, thing, 1, 2, weight)
                self.refuses(NoTree, told_behind, PATH, PATH_TREE[:2] + (thing,), 1, 2, weight)
        self.refuses(NoTree, told_behind, full(5), PATH_TREE, 1, 2, (1, 1))
        self.refuses(NoTree, told_behind, full(3), PATH_TREE, 1, 2, (1, 1))
        self.refuses(NoTree, told_behind, PATH, rows([(0, 1, 5), (0, 2, 2), (1, 2, 4)]), 1, 2, (1, 1))
        self.refuses(NoTree, told_behind, PATH, PATH_TREE[:2] + ((2, 3, (4, 2)),), 1, 2, (1, 1))

"""[15]: trees, their ways and sides."""

from cutstree.errors import NoPlace, NoTree
from cutstree.trees import is_tree, tree_side, tree_way
from tests.seeking import side_of_row, way_of_rows
from tests.things import ODD, Case, as_lists, numbers

#     0 - 2 - 1
#         |
#     5 - 3 - 4
TREE = ((0, 2, (3, 1)), (1, 2, (5, 12)), (2, 3, (0, 1)), (3, 4, (10 ** 40, 7)), (3, 5, (1, 10 ** 40)))
ONE = (1, 1)
NO_TREES = {
    "a row out": TREE[:4],
    "the first row out": TREE[1:],
    "a row within out": TREE[:2] + TREE[3:],
    "one more": TREE + ((4, 5, ONE),),
    "a row twice": TREE[:4] + TREE[3:4],
    "a row twice in a row too long": TREE + TREE[4:],
    "two rows of two places": ((0, 2, ONE), (0, 2, (2, 1)), (1, 2, ONE), (2, 3, ONE), (3, 4, ONE)),
    "rows turned round": TREE[::-1],
    "two rows changed": (TREE[1], TREE[0]) + TREE[2:],
    "the last two changed": TREE[:3] + (TREE[4], TREE[3]),
    "i above j": ((2, 0, (3, 1)),) + TREE[1:],
    "i above j, in order": TREE[:1] + ((1, 2, ONE), (3, 2, ONE)) + TREE[3:],
    "i as j": TREE[:4] + ((5, 5, ONE),),
    "a place beyond": TREE[:4] + ((3, 6, ONE),),
    "a place below": ((-1, 2, ONE),) + TREE[1:],
    "a ring": ((0, 1, ONE), (0, 2, ONE), (1, 2, ONE), (3, 4, ONE), (3, 5, ONE)),
    "a ring of four": ((0, 1, ONE), (0, 3, ONE), (1, 2, ONE), (2, 3, ONE), (4, 5, ONE)),
    "a ring with place 0 beside": ((0, 5, ONE), (1, 2, ONE), (1, 3, ONE), (2, 4, ONE), (3, 4, ONE)),
    "not in least terms": ((0, 2, (2, 2)),) + TREE[1:],
    "nought not in least terms": ((0, 2, (0, 2)),) + TREE[1:],
    "below nought": ((0, 2, (-1, 1)),) + TREE[1:],
    "below of nought": ((0, 2, (1, 0)),) + TREE[1:],
    "a whole number for an amount": ((0, 2, 1),) + TREE[1:],
    "a truth for a place": TREE[:1] + ((True, 2, ONE),) + TREE[2:],
    "a truth for nought": ((False, 2, ONE),) + TREE[1:],
    "a truth in an amount": ((0, 2, (True, 1)),) + TREE[1:],
    "a text for a place": (("0", 2, ONE),) + TREE[1:],
    "a short row": ((0, 2),) + TREE[1:],
    "a long row": ((0, 2, ONE, 0),) + TREE[1:],
    "no row": (None,) + TREE[1:],
    "a dict for a row": ({0: 0, 1: 2, 2: ONE},) + TREE[1:],
    "a dict": dict(enumerate(TREE)),
}


def made_tree(many, source):
    """A tree that hangs each place on one ahead of it, the numbers of the places shuffled."""
    names = sorted(range(many), key=lambda place: next(source))
    pairs = [sorted((names[at], names[next(source) % at])) for at in range(1, many)]
    return tuple((i, j, (next(source) % 5, 1)) for i, j in sorted(pairs))


class Told(Case):
    def test_right_ones(self):
        for tree in (TREE, list(TREE), as_lists(TREE), tuple(as_lists(TREE))):
            self.assertIs(is_tree(6, tree), True)

    def test_one_place_and_two(self):
        for tree in ((), []):
            self.assertIs(is_tree(1, tree), True)
            self.assertIs(is_tree(2, tree), False)
            self.assertIs(is_tree(40, tree), False)
        self.assertIs(is_tree(2, ((0, 1, (0, 1)),)), True)
        self.assertIs(is_tree(1, ((0, 1, (0, 1)),)), False)
        self.assertIs(is_tree(3, ((0, 1, (0, 1)),)), False)

    def test_forty_places(self):
        source = numbers(51)
        for tree in [made_tree(40, source) for step in range(5)] + [tuple((k, k + 1, ONE) for k in range(39))]:
            self.assertIs(is_tree(40, tree), True)
            self.assertIs(is_tree(39, tree), False)
            self.assertIs(is_tree(40, tree[:-1]), False)
            self.assertIs(is_tree(40, tree[1:]), False)

    def test_another_number_of_places(self):
        for many in (1, 2, 3, 4, 5, 7, 8, 40):
            self.assertIs(is_tree(many, TREE), False)

    def test_bent_in_one_thing(self):
        for name, tree in NO_TREES.items():
            with self.subTest(name):
                self.assertIs(is_tree(6, tree), False)
                self.assertIs(is_tree(6, as_lists(tree)), False)

    def test_things_of_any_kind(self):
        for thing in ODD + (0, 1, 5, "tree"):
            for many in (1, 2, 3, 6, 40):
                self.assertIs(is_tree(many, thing), False)
        for thing in ODD + (3, (2, 2), ()):
            for row in (thing, (thing, 1, ONE), (0, thing, ONE), (0, 1, thing)):
                self.assertIs(is_tree(2, (row,)), False, row)
        for thing in [thing for thing in ODD if thing not in (10 ** 60, 1 << 4000)]:
            for much in ((thing, 1), (1, thing), (thing, thing)):
                self.assertIs(is_tree(2, ((0, 1, much),)), False, much)

    def test_amounts_of_any_size(self):
        for much in ((10 ** 60, 1), (1, 10 ** 60), (10 ** 60, 10 ** 60 + 1), (0, 1), (1, 13)):
            self.assertIs(is_tree(2, ((0, 1, much),)), True)


class Ways(Case):
    def test_by_hand(self):
        self.tells(tree_way(TREE, 0, 5), (0, 2, 4))
        self.tells(tree_way(TREE, 5, 0), (4, 2, 0))
        self.tells(tree_way(as_lists(TREE), 4, 5), (3, 4))
        self.tells(tree_way(TREE, 1, 2), (1,))
        self.tells(tree_way(((0, 1, ONE),), 1, 0), (0,))

    def test_from_either_end(self):
        source = numbers(53)
        for many in (2, 3, 5, 9, 40):
            tree = made_tree(many, source)
            for i in range(many):
                for j in {0, 1, many // 2, many - 1} - {i}:
                    way = tree_way(tree, i, j)
                    self.tells(way, way_of_rows(tree, i, j))
                    self.assertEqual(tree_way(tree, j, i), way[::-1])


class Sides(Case):
    def test_by_hand(self):
        self.assertEqual([tree_side(TREE, k) for k in range(5)], [(1, 2, 3, 4, 5), (1,), (3, 4, 5), (4,), (5,)])
        self.tells(tree_side(as_lists(TREE), 2), (3, 4, 5))
        self.tells(tree_side(((0, 1, ONE),), 0), (1,))

    def test_the_row_s_lower_place_may_be_behind(self):
        self.tells(tree_side(((0, 3, ONE), (1, 2, ONE), (2, 3, ONE)), 1), (1,))
        self.tells(tree_side(((0, 3, ONE), (1, 2, ONE), (2, 3, ONE)), 2), (1, 2))

    def test_of_each_row(self):
        source = numbers(57)
        for many in (2, 3, 5, 9, 40):
            tree = made_tree(many, source)
            for k in range(many - 1):
                self.tells(tree_side(tree, k), side_of_row(tree, k))


class Refused(Case):
    def test_no_tree(self):
        for name, tree in NO_TREES.items():
            with self.subTest(name):
                if name != "a row out":
                    self.refuses(NoTree, tree_way, tree, 0, 1)
                    self.refuses(NoTree, tree_side, tree, 0)

    def test_a_tree_of_fewer_places_is_one(self):
        self.tells(tree_way(TREE[:4], 0, 4), (0, 2, 3))
        self.tells(tree_side(TREE[:4], 3), (4,))

    def test_things_of_any_kind(self):
        for thing in ODD + (0, "tree", [None] * 39, [None] * 41):
            self.refuses(NoTree, tree_way, thing, 0, 1)
            self.refuses(NoTree, tree_side, thing, 0)

    def test_no_tree_ahead_of_no_place(self):
        for tree in (None, "x", ((0, 1, (2, 2)),), [[]], {}):
            for thing in ODD + (0, 1):
                self.refuses(NoTree, tree_way, tree, thing, thing)
                self.refuses(NoTree, tree_side, tree, thing)

    def test_more_than_39_rows(self):
        for many in (41, 42, 60):
            tree = tuple((k, k + 1, ONE) for k in range(many - 1))
            self.refuses(NoTree, tree_way, tree, 0, 1)
            self.refuses(NoTree, tree_side, tree, 0)
            self.refuses(NoTree, tree_way, tree, None, None)
        tree = tuple((k, k + 1, ONE) for k in range(39))
        self.tells(tree_way(tree, 39, 0), tuple(range(38, -1, -1)))
        self.tells(tree_side(tree, 38), (39,))

    def test_no_place(self):
        for thing in ODD + (6, 7, "0", (0,), [1]):
            self.refuses(NoPlace, tree_way, TREE, thing, 1)
            self.refuses(NoPlace, tree_way, TREE, 1, thing)
            self.refuses(NoPlace, tree_way, TREE, thing, thing)
            self.refuses(NoPlace, tree_side, TREE, thing)
        for place in range(6):
            self.refuses(NoPlace, tree_way, TREE, place, place)
        self.refuses(NoPlace, tree_side, TREE, 5)
        self.refuses(NoPlace, tree_side, TREE, -1)

    def test_one_place(self):
        for tree in ((), []):
            self.refuses(NoPlace, tree_way, tree, 0, 0)
            self.refuses(NoPlace, tree_way, tree, 0, 1)
            self.refuses(NoPlace, tree_side, tree, 0)

    def test_nothing_handed_in_is_changed(self):
        tree = as_lists(TREE)
        is_tree(6, tree), tree_way(tree, 0, 5), tree_side(tree, 2)
        self.assertEqual(tree, as_lists(TREE))

"""[31]: groups that keep some places apart."""

from fractions import Fraction
from itertools import combinations, product

from cutstree.drawn import drawn_tree
from cutstree.errors import NoGroups, NoPlace, NoTree, TooMany
from cutstree.groups import apart_by_tree, groups_weight, is_apart, least_apart
from cutstree.plain import plain_tree
from cutstree.webs import Web
from tests.seeking import amount, cut_of, fraction
from tests.shapes import SOME, bunch, full, great_webs, in_pieces, ladder, made_webs, necklace, path, ring, rows
from tests.shapes import small_webs, star, thick_halves, whole
from tests.things import ODD, Case, as_lists

WEB = whole(6, [(0, 1, 3), (0, 2, 1), (1, 2, 2), (2, 3, 2), (3, 4, 5), (4, 5, 1), (0, 5, 1)])
PLACES = (0, 3, 5)
GROUPS = ((0, 1, 2), (3, 4), (5,))
NO_PLACES = ODD + ((), (0,), [3], (3, 0), (0, 0), (0, 3, 3), (0, 6), (-1, 0), (0, True, 3), (False, 3), "03", 0, 3,
                   {0: 0, 1: 3}, (0, "3"), (0, None), (0, (3,)), tuple(range(7)))
NO_GROUPS = {
    "too few": GROUPS[:2],
    "too few, though all places stand": ((0, 1, 2, 5), (3, 4)),
    "too many": GROUPS + ((),),
    "in another order": (GROUPS[1], GROUPS[0], GROUPS[2]),
    "a place left out": ((0, 1), (3, 4), (5,)),
    "a place in two of them": ((0, 1, 2), (2, 3, 4), (5,)),
    "a place twice in one": ((0, 1, 1, 2), (3, 4), (5,)),
    "not rising": ((0, 2, 1), (3, 4), (5,)),
    "the first told place elsewhere": ((1, 2), (0, 3, 4), (5,)),
    "the last told place elsewhere": ((0, 1, 2, 5), (3,), (4,)),
    "two told places changed": ((0, 1, 2), (4, 5), (3,)),
    "a group of none": ((0, 1, 2), (3, 4, 5), ()),
    "a place beyond": ((0, 1, 2), (3, 4), (5, 6)),
    "a place below": ((-1, 0, 1, 2), (3, 4), (5,)),
    "a truth": ((0, True, 2), (3, 4), (5,)),
    "a text": ("012", (3, 4), (5,)),
    "a number": ((0, 1, 2), (3, 4), 5),
    "a dict in it": ((0, 1, 2), (3, 4), {5: 5}),
    "a dict": dict(enumerate(GROUPS)),
}


def apart_by_words(tree, places):
    """(groups, amounts of rows that joined none), by the words of the promise."""
    groups = [{place} for place in range(len(tree) + 1)]
    none = []
    for k in sorted(range(len(tree)), key=lambda k: (-fraction(tree[k][2]), k)):
        i, j, much = tree[k]
        one, other = [group for group in groups if i in group][0], [group for group in groups if j in group][0]
        if one & set(places) and other & set(places):
            none.append(much)
        else:
            groups = [group for group in groups if group not in (one, other)] + [one | other]
    return tuple(tuple(sorted(group)) for place in places for group in groups if place in group), none


def all_groups(many, places):
    free = [place for place in range(many) if place not in places]
    for share in product(range(len(places)), repeat=len(free)):
        yield tuple(
            tuple(sorted([told] + [place for place, at in zip(free, share) if at == k])) for k, told in enumerate(places))


def weight_by_words(web, groups):
    where = {place: k for k, group in enumerate(groups) for place in group}
    pairs = combinations(range(web.many), 2)
    return sum((fraction(web.tie(i, j)) for i, j in pairs if where[i] != where[j]), Fraction(0))


def told_places(many):
    """Some rows of places of a web of so many."""
    found = [(0, many - 1), tuple(range(many)), (0, 1), (many - 2, many - 1), tuple(range(0, many, 2)), (0, many // 2, many - 1)]
    return sorted({places for places in found if len(places) > 1 and len(set(places)) == len(places)})


class Told(Case):
    def test_right_groups(self):
        for places in (PLACES, list(PLACES)):
            for groups in (GROUPS, list(GROUPS), as_lists(GROUPS), ((0,), (1, 2, 3), (4, 5)), ((0,), (3,), (1, 2, 4, 5))):
                self.assertIs(is_apart(WEB, places, groups), True)
        self.assertIs(is_apart(WEB, (0, 1, 2, 3, 4, 5), tuple((place,) for place in range(6))), True)
        self.assertIs(is_apart(Web(2, ()), (0, 1), ((0,), (1,))), True)

    def test_all_groups(self):
        right = set(all_groups(4, (1, 3)))
        rows_of_places = [tuple(row) for length in range(5) for row in combinations(range(4), length)]
        for groups in product(rows_of_places, repeat=2):
            self.assertIs(is_apart(full(4), (1, 3), groups), groups in right)

    def test_weights(self):
        self.tells(groups_weight(WEB, PLACES, GROUPS), (4, 1))
        self.tells(groups_weight(WEB, list(PLACES), as_lists(GROUPS)), (4, 1))
        self.tells(groups_weight(WEB, PLACES, ((0,), (1, 2, 3, 4), (5,))), (6, 1))
        self.tells(groups_weight(Web(3, ()), (0, 2), ((0, 1), (2,))), (0, 1))
        for web in (ring(5, SOME), full(5, SOME), full(4, ((10 ** 12, 1),)), star(5, ((1, 3), (5, 16)))):
            for places in told_places(web.many):
                for groups in all_groups(web.many, places):
                    self.tells(groups_weight(web, places, groups), amount(weight_by_words(web, groups)))

    def test_each_word_broken(self):
        for name, groups in NO_GROUPS.items():
            with self.subTest(name):
                for one in (groups, as_lists(groups)):
                    self.assertIs(is_apart(WEB, PLACES, one), False)
                    self.refuses(NoGroups, groups_weight, WEB, PLACES, one)

    def test_things_of_any_kind(self):
        for thing in ODD + (0, "x", ()):
            for groups in (thing, GROUPS[:2] + (thing,), (thing,) + GROUPS[1:], ((0, 1, thing),) + GROUPS[1:]):
                self.assertIs(is_apart(WEB, PLACES, groups), False)
                self.refuses(NoGroups, groups_weight, WEB, PLACES, groups)

    def test_no_place_ahead(self):
        for places in NO_PLACES:
            for groups in (GROUPS, ((0,), (3,)), None, ()):
                self.refuses(NoPlace, is_apart, WEB, places, groups)
                self.refuses(NoPlace, groups_weight, WEB, places, groups)

    def test_nothing_handed_in_is_changed(self):
        places, groups = list(PLACES), as_lists(GROUPS)
        is_apart(WEB, places, groups), groups_weight(WEB, places, groups)
        self.assertEqual((places, groups), (list(PLACES), as_lists(GROUPS)))


class ByTree(Case):
    def test_by_hand(self):
        tree = rows([(0, 1, 5), (1, 2, 2), (2, 3, 4)])
        self.tells(apart_by_tree(path(4), tree, (0, 3)), ((0, 1), (2, 3)))
        self.tells(apart_by_tree(path(4), as_lists(tree), [0, 1]), ((0,), (1, 2, 3)))
        self.tells(apart_by_tree(path(4), tree, (1, 2, 3)), ((0, 1), (2,), (3,)))
        self.tells(apart_by_tree(path(4), tree, (0, 1, 2, 3)), ((0,), (1,), (2,), (3,)))

    def test_equal_amounts_by_rising_indexes(self):
        # 1 is between 0 and 2, which are told: the first row takes it.
        self.tells(apart_by_tree(Web(3, ()), rows([(0, 1, 2), (1, 2, 2)]), (0, 2)), ((0, 1), (2,)))
        self.tells(apart_by_tree(Web(3, ()), rows([(0, 1, 1), (0, 2, 1)]), (1, 2)), ((0, 1), (2,)))
        tree = tuple((k, k + 1, (0, 1)) for k in range(39))
        self.tells(apart_by_tree(Web(40, ()), tree, (0, 39)), (tuple(range(39)), (39,)))
        tree = rows([(0, 1, 2), (0, 2, 3), (2, 3, 2), (3, 4, 3)])
        self.tells(apart_by_tree(Web(5, ()), tree, (1, 4)), ((0, 1, 2), (3, 4)))

    def test_any_tree(self):
        # Any tree of the web's places will do, with amounts that no web could have.
        one, other = (10 ** 60, 10 ** 60 + 1), (10 ** 60 + 1, 10 ** 60 + 2)
        for low, high, told in ((one, other, ((0,), (1, 2))), (other, one, ((0, 1), (2,)))):
            self.tells(apart_by_tree(full(3), ((0, 1, low), (1, 2, high)), (0, 2)), told)
        self.tells(apart_by_tree(full(3), ((0, 1, (1, 3)), (1, 2, (1, 13))), (0, 2)), ((0, 1), (2,)))
        self.tells(apart_by_tree(full(3), ((0, 1, (2, 3)), (1, 2, (10, 13))), (0, 2)), ((0,), (1, 2)))

    def looked_at(self, web, tree, places):
        groups = apart_by_tree(web, tree, places)
        told, none = apart_by_words(tree, places)
        self.tells(groups, told)
        self.assertIs(is_apart(web, places, groups), True)
        weight = fraction(groups_weight(web, places, groups))
        self.assertLessEqual(weight, sum(fraction(much) for much in none))
        return weight

    def test_the_bound(self):
        apart = 0
        for web in [web for web in small_webs() + list(made_webs(191, (3, 4, 5, 6, 7), 3)) if web.many > 2]:
            for tree in {drawn_tree(web)[0], plain_tree(web)[0]}:
                for places in told_places(web.many):
                    weight = self.looked_at(web, tree, places)
                    least = fraction(groups_weight(web, places, least_apart(web, places)))
                    self.assertLessEqual(least, weight)
                    self.assertLessEqual(weight, (2 - Fraction(2, len(places))) * least)
                    apart += least < weight
        self.assertGreater(apart, 3)

    def test_great_webs(self):
        for web in great_webs():
            tree = drawn_tree(web)[0]
            for places in told_places(web.many):
                self.looked_at(web, tree, places)

    def test_refused(self):
        tree = drawn_tree(WEB)[0]
        for places in NO_PLACES:
            for one in (tree, None, ()):
                self.refuses(NoPlace, apart_by_tree, WEB, one, places)
        for thing in ODD + (0, "x", (), tree[:4], tree[::-1], tree + tree[4:], drawn_tree(full(5))[0], tree[:4] + (None,)):
            self.refuses(NoTree, apart_by_tree, WEB, thing, PLACES)
        self.refuses(NoPlace, apart_by_tree, Web(1, ()), (), (0,))

    def test_nothing_handed_in_is_changed(self):
        tree, places = as_lists(drawn_tree(WEB)[0]), [0, 3]
        kept = as_lists(drawn_tree(WEB)[0])
        apart_by_tree(WEB, tree, places)
        self.assertEqual((tree, places), (kept, [0, 3]))


class Least(Case):
    def test_by_hand(self):
        self.tells(least_apart(WEB, PLACES), ((0, 1, 2), (3, 4), (5,)))
        self.tells(least_apart(WEB, [0, 1, 2, 3, 4, 5]), ((0,), (1,), (2,), (3,), (4,), (5,)))
        self.tells(least_apart(Web(2, ()), (0, 1)), ((0,), (1,)))

    def test_by_search(self):
        for web in small_webs() + list(made_webs(193, (2, 3, 4, 5, 6), 4)) + [ring(7), bunch((4, 3)), ladder(8)]:
            for places in told_places(web.many):
                groups = least_apart(web, places)
                self.assertIs(is_apart(web, places, groups), True)
                self.tells(groups, least_apart(web, list(places)))
                least = min(weight_by_words(web, one) for one in all_groups(web.many, places))
                self.assertEqual(weight_by_words(web, groups), least)

    def test_two_places_are_parted_by_their_cut(self):
        for web in (thick_halves(6), full(5, SOME), ring(6), in_pieces(6)):
            for i, j in combinations(range(web.many), 2):
                self.assertEqual(groups_weight(web, (i, j), least_apart(web, (i, j))), amount(cut_of(web, i, j)))

    def test_nine_places_and_one_more(self):
        for web in (ring(9), full(9, SOME), Web(9, ())):
            for places in told_places(9):
                self.assertIs(is_apart(web, places, least_apart(web, places)), True)
        for web in (ring(10), path(40), Web(10, ()), necklace(10)):
            for places in ((0, 1), tuple(range(10)), [0, 5, 9]):
                self.refuses(TooMany, least_apart, web, places, most=9)

    def test_no_place_ahead(self):
        for web in (WEB, whole(6, [(0, 5, 1)])):
            for places in NO_PLACES:
                self.refuses(NoPlace, least_apart, web, places)
        for places in ODD + ((), (0,), (1, 0), (0, 40), "01"):
            self.refuses(NoPlace, least_apart, path(40), places)
        self.refuses(NoPlace, least_apart, Web(1, ()), (0,))

"""[32], [33], [34]: demands, the half bound, a web of least weight that meets them."""

from fractions import Fraction
from itertools import combinations

from cutstree.amounts import half, plus, total
from cutstree.changes import changed
from cutstree.cuttrees import tree_paper
from cutstree.demands import are_demands, half_bound, is_least_web, meeting_web, meets
from cutstree.drawn import drawn_tree
from cutstree.errors import NoDemand
from cutstree.plain import plain_tree
from cutstree.webs import Web
from tests.seeking import all_cuts, amount, fraction
from tests.shapes import rows, whole
from tests.things import ODD, Case, as_lists, numbers

DEMANDS = rows([(0, 1, 3), (1, 2, 1), (0, 3, 2)])
WEIGHTS = ((0, 1), (1, 1), (2, 1), (3, 1), (1, 2), (5, 3), (1, 27720), (1000000, 1), (999983, 27720), (1, 1))
NO_DEMANDS = {
    "two of two places": DEMANDS + DEMANDS[:1],
    "two of two places, of other weights": DEMANDS + ((0, 1, (0, 1)),),
    "the greater place first": ((1, 0, (1, 1)),),
    "a place with itself": ((1, 1, (1, 1)),),
    "a place beyond": ((0, 4, (1, 1)),),
    "a place below": ((-1, 0, (1, 1)),),
    "a truth for a place": ((0, True, (1, 1)),),
    "an above too great": ((0, 1, (1000001, 1)),),
    "an above too great, over a great below": ((0, 1, (1000001, 27720)),),
    "a below that divides 55,440 alone": ((0, 1, (1, 16)),),
    "55,440 itself": ((0, 1, (1, 55440)),),
    "a below that doesn't divide": ((0, 1, (1, 13)),),
    "not in least terms": ((0, 1, (2, 2)),),
    "below nought": ((0, 1, (-1, 1)),),
    "a number for a weight": ((0, 1, 1),),
    "a short row": ((0, 1),),
    "a long row": ((0, 1, (1, 1), 1),),
    "a tie for demands": (0, 1, (1, 1)),
    "a dict": {0: (0, 1, (1, 1))},
    "the last one wrong": DEMANDS + (None,),
}


def bound_by_words(many, demands):
    greatest = [max([fraction(w) for i, j, w in demands if place in (i, j)], default=Fraction(0)) for place in range(many)]
    return sum(greatest, Fraction(0)) / 2


def web_by_words(many, demands):
    """The ties that the promise tells, by fractions."""
    ties, before = {}, Fraction(0)
    for level in sorted({fraction(weight) for i, j, weight in demands} - {0}):
        heaps = [{place} for place in range(many)]
        for i, j, weight in demands:
            if fraction(weight) >= level:
                one, other = [h for h in heaps if i in h][0], [h for h in heaps if j in h][0]
                if one != other:
                    heaps = [h for h in heaps if h not in (one, other)] + [one | other]
        for heap in [sorted(heap) for heap in heaps]:
            steps = {2: [tuple(heap)], 1: []}.get(len(heap)) if len(heap) < 3 else list(zip(heap, heap[1:]))
            steps += [(heap[0], heap[-1])] if len(heap) > 2 else []
            for step in steps:
                ties[step] = ties.get(step, 0) + (level - before) / (1 if len(heap) == 2 else 2)
        before = level
    return tuple((i, j, amount(much)) for (i, j), much in sorted(ties.items()))


def made_demands(many, source, every):
    pairs = [pair for pair in combinations(range(many), 2) if next(source) % every == 0]
    made = [pair + (WEIGHTS[next(source) % len(WEIGHTS)],) for pair in pairs]
    return tuple(made[::-1] if next(source) % 2 else made)


class Told(Case):
    def test_right_demands(self):
        for demands in ((), DEMANDS, DEMANDS[::-1], ((0, 1, (0, 1)),), ((2, 3, (1000000, 1)),), ((0, 3, (1, 27720)),),
                        ((0, 3, (999983, 27720)),)):
            for one in (demands, list(demands), as_lists(demands)):
                self.assertIs(are_demands(4, one), True)
                self.tells(half_bound(4, one), amount(bound_by_words(4, demands)))
                self.tells(meeting_web(4, one).ties, web_by_words(4, demands))

    def test_how_many_places(self):
        self.assertIs(are_demands(1, ()), True)
        self.assertIs(are_demands(1, ((0, 1, (1, 1)),)), False)
        self.assertIs(are_demands(40, ((38, 39, (1, 1)),)), True)
        self.assertIs(are_demands(39, ((38, 39, (1, 1)),)), False)
        every = tuple(pair + ((1, 3),) for pair in combinations(range(40), 2))
        self.assertIs(are_demands(40, every), True)
        self.assertIs(are_demands(40, every + every[7:8]), False)

    def test_each_word_broken(self):
        for name, demands in NO_DEMANDS.items():
            with self.subTest(name):
                for one in (demands, as_lists(demands)):
                    self.refused(4, one)

    def test_things_of_any_kind(self):
        for thing in ODD + (0, "x"):
            for demands in (thing, (thing,), DEMANDS + (thing,), ((0, 1, thing),), ((0, thing, (1, 1)),)):
                self.refused(4, demands)
            self.refused(1, thing)

    def refused(self, many, demands):
        self.assertIs(are_demands(many, demands), False)
        self.refuses(NoDemand, half_bound, many, demands)
        self.refuses(NoDemand, meeting_web, many, demands)

    def test_nothing_handed_in_is_changed(self):
        demands = as_lists(DEMANDS)
        are_demands(4, demands), half_bound(4, demands), meeting_web(4, demands)
        self.assertEqual(demands, as_lists(DEMANDS))


class Made(Case):
    def test_the_bound_by_hand(self):
        self.tells(half_bound(4, DEMANDS), (9, 2))
        self.tells(half_bound(5, DEMANDS), (9, 2))
        self.tells(half_bound(4, ()), (0, 1))
        self.tells(half_bound(2, ((0, 1, (1, 27720)),)), (1, 27720))
        self.tells(half_bound(3, ((0, 1, (1, 27720)), (1, 2, (1, 27720)))), (1, 18480))

    def test_one_place_and_no_demands(self):
        for many in (1, 2, 40):
            web = meeting_web(many, ())
            self.tells((web.many, web.ties), (many, ()))
        self.tells(meeting_web(3, ((0, 1, (0, 1)), (1, 2, (0, 1)))).ties, ())

    def test_a_heap_of_two(self):
        self.tells(meeting_web(3, ((0, 2, (5, 12)),)).ties, ((0, 2, (5, 12)),))
        self.tells(meeting_web(2, ((0, 1, (1000000, 1)),)).ties, ((0, 1, (1000000, 1)),))

    def test_a_heap_of_three(self):
        self.tells(meeting_web(4, rows([(0, 1, 1), (1, 3, 1)])).ties, tuple((i, j, (1, 2)) for i, j in ((0, 1), (0, 3), (1, 3))))
        self.tells(meeting_web(3, rows([(0, 2, 2), (1, 2, 2)])).ties, rows([(0, 1, 1), (0, 2, 1), (1, 2, 1)]))

    def test_one_upon_the_other(self):
        # Up to 1 all four are a heap, up to 2 0, 1 and 3 are one, and up to 3 0 and 1.
        ties = ((0, 1, (2, 1)), (0, 3, (1, 1)), (1, 2, (1, 2)), (1, 3, (1, 2)), (2, 3, (1, 2)))
        self.tells(meeting_web(4, DEMANDS).ties, ties)
        self.tells(meeting_web(4, DEMANDS[::-1]).ties, ties)

    def test_two_heaps_of_one_weight(self):
        demands = rows([(0, 4, 1), (1, 2, 1), (2, 3, 1)])
        self.tells(meeting_web(5, demands).ties, ((0, 4, (1, 1)), (1, 2, (1, 2)), (1, 3, (1, 2)), (2, 3, (1, 2))))

    def test_by_all_sides(self):
        source = numbers(211)
        for many in (2, 3, 4, 5, 6) * 10:
            demands = made_demands(many, source, 1 + next(source) % 3)
            web = meeting_web(many, demands)
            self.tells((web.many, web.ties), (many, web_by_words(many, demands)))
            cuts = all_cuts(web)
            for i, j, weight in demands:
                self.assertGreaterEqual(cuts[i, j], fraction(weight))
            self.assertEqual(total([weight for i, j, weight in web.ties]), half_bound(many, demands))
            self.tells(half_bound(many, demands), amount(bound_by_words(many, demands)))

    def test_forty_places(self):
        source = numbers(223)
        for every in (1, 3, 40):
            demands = made_demands(40, source, every)
            web = meeting_web(40, demands)
            self.tells(web.ties, web_by_words(40, demands))
            tree = plain_tree(web)[0]
            self.assertIs(is_least_web(web, demands, tree, tree_paper(web, tree)), True)

    def test_many_unlike_weights(self):
        pairs = list(combinations(range(40), 2))
        demands = tuple(pair + (amount(Fraction(k + 1, 27720)),) for k, pair in enumerate(pairs))
        web = meeting_web(40, demands)
        self.assertEqual(total([weight for i, j, weight in web.ties]), half_bound(40, demands))
        self.tells(web.ties, web_by_words(40, demands))


class Met(Case):
    def setUp(self):
        self.web = meeting_web(4, DEMANDS)
        self.tree = drawn_tree(self.web)[0]
        self.paper = tree_paper(self.web, self.tree)

    def both(self, web, demands, tree, paper):
        told = (meets(web, demands, tree, paper), is_least_web(web, demands, tree, paper))
        self.tells(told, told)
        return told

    def test_right(self):
        for demands in (DEMANDS, as_lists(DEMANDS), DEMANDS[::-1]):
            for tree in (self.tree, as_lists(self.tree)):
                for paper in (self.paper, as_lists(self.paper)):
                    self.assertEqual(self.both(self.web, demands, tree, paper), (True, True))

    def test_met_by_too_much(self):
        for i, j in combinations(range(4), 2):
            web = changed(self.web, i, j, plus(self.web.tie(i, j), (1, 55440)))
            tree = drawn_tree(web)[0]
            self.assertEqual(self.both(web, DEMANDS, tree, tree_paper(web, tree)), (True, False))

    def test_not_met(self):
        for i, j, weight in self.web.ties:
            web = changed(self.web, i, j, half(weight))
            tree = drawn_tree(web)[0]
            self.assertEqual(self.both(web, DEMANDS, tree, tree_paper(web, tree)), (False, False))

    def test_the_half_bound_but_not_met(self):
        web = whole(4, [(0, 1, 4)])
        web = changed(web, 2, 3, (1, 2))
        self.assertEqual(total([weight for i, j, weight in web.ties]), half_bound(4, DEMANDS))
        tree = drawn_tree(web)[0]
        self.assertEqual(self.both(web, DEMANDS, tree, tree_paper(web, tree)), (False, False))

    def test_a_demand_just_as_great_and_a_little_greater(self):
        web = whole(2, [(0, 1, 3)])
        tree, paper = rows([(0, 1, 3)]), (rows([(0, 1, 3)]),)
        self.assertEqual(self.both(web, ((0, 1, (3, 1)),), tree, paper), (True, True))
        self.assertEqual(self.both(web, ((0, 1, (83159, 27720)),), tree, paper), (True, False))
        self.assertEqual(self.both(web, ((0, 1, (83161, 27720)),), tree, paper), (False, False))
        self.assertEqual(self.both(web, (), tree, paper), (True, False))

    def test_nothing_asked_for(self):
        self.assertEqual(self.both(Web(1, ()), (), (), ()), (True, True))
        tree = rows([(0, 1, 0), (1, 2, 0)])
        self.assertEqual(self.both(Web(3, ()), (), tree, ((), ())), (True, True))
        self.assertEqual(self.both(Web(3, ()), ((0, 2, (0, 1)),), tree, ((), ())), (True, True))

    def test_wrong_demands(self):
        for demands in NO_DEMANDS.values():
            self.assertEqual(self.both(self.web, demands, self.tree, self.paper), (False, False))

    def test_wrong_trees_and_papers(self):
        higher = tuple((i, j, plus(much, (1, 1))) for i, j, much in self.tree)
        for tree in (higher, self.tree[:2], self.tree[::-1], (), None):
            self.assertEqual(self.both(self.web, DEMANDS, tree, self.paper), (False, False))
            self.assertEqual(self.both(self.web, (), tree, self.paper), (False, False))
        for paper in (self.paper[:2], self.paper[::-1], self.paper[:2] + ((),), (), None, self.paper + ((),)):
            self.assertEqual(self.both(self.web, DEMANDS, self.tree, paper), (False, False))
            self.assertEqual(self.both(self.web, (), self.tree, paper), (False, False))
        other = whole(4, [(0, 1, 9), (1, 2, 9), (2, 3, 9)])
        self.assertEqual(self.both(other, DEMANDS, self.tree, self.paper), (False, False))

    def test_things_of_any_kind(self):
        for thing in ODD + (0, "x"):
            for demands, tree, paper in ((thing, self.tree, self.paper), (DEMANDS, thing, self.paper),
                                         (DEMANDS, self.tree, thing), (thing, thing, thing), (DEMANDS, thing, thing),
                                         (DEMANDS + (thing,), self.tree, self.paper)):
                self.assertEqual(self.both(self.web, demands, tree, paper), (False, False))

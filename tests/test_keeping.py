"""[29]: a web and a cut tree of it, kept through changes."""

from cutstree.changes import changed, with_place, without_place
from cutstree.cuttrees import is_cut_tree, tree_paper
from cutstree.errors import NoPlace, NoTie, NoWeight, TooMany
from cutstree.keeping import Kept
from cutstree.trees import tree_side
from cutstree.webs import Web
from tests.seeking import is_cut_tree_of
from tests.shapes import SOME, full, great_webs, in_pieces, path, ring, rows, small_webs
from tests.test_behind import NO_PLACES, NO_WEIGHTS
from tests.test_ledtrees import asked_by_words
from tests.things import ODD, Case, numbers

WEIGHTS = ((0, 1), (1, 1), (2, 1), (1, 2), (5, 3), (7, 1), (10 ** 12, 1), (1, 55440))
NO_TIES = ODD + (0, "x", ((0, (1, 1)), None), ((0, (1, 1)), (0, (2, 1))), ((0, (2, 2)),), ((4, (1, 1)),), ((0, 1, (1, 1)),))


class Keeping(Case):
    def right(self, kept, web, asked):
        """That it keeps this web, and a cut tree of it."""
        self.tells((kept.web.many, kept.web.ties), (web.many, web.ties))
        self.tells(kept.asked, asked)
        self.tells(kept.tree, kept.tree)
        self.assertIs(is_cut_tree(web, kept.tree, tree_paper(web, kept.tree)), True)
        if web.many < 6:
            self.assertTrue(is_cut_tree_of(web, kept.tree))

    def changes(self, kept, i, j, weight):
        web, tree, asked = kept.web, kept.tree, kept.asked
        took = kept.change(i, j, weight)
        many, stays = asked_by_words(web, tree, i, j, weight)
        self.tells(took, many)
        self.right(kept, changed(web, i, j, weight), asked + took)
        have = [(tree_side(kept.tree, k), row[2]) for k, row in enumerate(kept.tree)]
        self.assertEqual([row for row in stays if row not in have], [])
        if web.tie(i, j) == tuple(weight):
            self.assertEqual(kept.tree, tree)

    def comes(self, kept, ties):
        web, asked = kept.web, kept.asked
        took = kept.come(ties)
        self.tells(took, took)
        self.assertGreaterEqual(took, 0)
        self.right(kept, with_place(web, ties), asked + took)

    def goes(self, kept, place):
        web, asked = kept.web, kept.asked
        took = kept.go(place)
        self.tells(took, took)
        self.assertGreaterEqual(took, 0)
        self.right(kept, without_place(web, place), asked + took)

    def test_at_first(self):
        for web in small_webs() + great_webs()[::4] + [Web(1, ())]:
            self.right(Kept(web), web, web.many - 1)

    def test_each_tells_how_many_it_took(self):
        kept = Kept(path(4, ((5, 1), (2, 1), (4, 1))))
        self.tells(kept.tree, rows([(0, 1, 5), (1, 2, 2), (2, 3, 4)]))
        self.tells(kept.change(1, 2, (2, 1)), 0)
        self.tells(kept.asked, 3)
        self.tells(kept.change(2, 1, [3, 1]), 1)
        self.tells(kept.asked, 4)
        self.tells(kept.change(1, 2, (1, 1)), 2)
        self.tells(kept.asked, 6)

    def test_places_come(self):
        kept = Kept(Web(1, ()))
        self.comes(kept, ())
        self.comes(kept, ((0, (2, 1)), (1, (1, 3))))
        self.comes(kept, [[2, [5, 2]]])
        self.comes(kept, ((3, (0, 1)), (1, (0, 1))))
        self.comes(kept, ((4, (0, 1)), (1, (1, 1)), (3, (1, 2))))
        while kept.web.many < 40:
            many = kept.web.many
            self.comes(kept, [(place, WEIGHTS[place % 8]) for place in range(many) if (place * many) % 5 == 1])
        self.refuses(TooMany, kept.come, (), most=40)
        for thing in NO_TIES:
            self.refuses(TooMany, kept.come, thing, most=40)

    def test_a_place_tied_to_one_alone_takes_one_flow_at_most(self):
        for web in (ring(9), full(7, SOME), in_pieces(8)):
            kept = Kept(web)
            self.assertLessEqual(kept.come(((3, (4, 1)),)), 1)
            self.right(kept, with_place(web, ((3, (4, 1)),)), kept.asked)

    def test_places_go(self):
        for web in (ring(6), full(5, SOME), path(7, SOME), in_pieces(7), Web(3, ())):
            kept = Kept(web)
            while kept.web.many > 1:
                self.goes(kept, (0, kept.web.many // 2, kept.web.many - 1)[kept.web.many % 3])
            self.refuses(NoPlace, kept.go, 0)
            self.tells((kept.web.many, kept.web.ties, kept.tree), (1, (), ()))

    def test_many_of_all(self):
        source = numbers(101)
        for web in (ring(5), full(6, SOME), Web(2, ()), path(9)):
            kept = Kept(web)
            for step in range(40):
                many = kept.web.many
                deed = next(source) % 6
                if deed == 0 and many < 12:
                    ties = [(place, WEIGHTS[next(source) % 8]) for place in range(many) if next(source) % 3 == 0]
                    self.comes(kept, ties[::-1])
                elif deed == 1 and many > 2:
                    self.goes(kept, next(source) % many)
                else:
                    i = next(source) % many
                    self.changes(kept, i, (i + 1 + next(source) % (many - 1)) % many, WEIGHTS[next(source) % 8])

    def test_lists_changed_behind_a_call(self):
        ties = [[0, 1, [3, 1]], [1, 2, [2, 1]]]
        kept = Kept(Web(3, ties))
        ties[0][2][0] = 9
        weight, new = [5, 1], [[1, [1, 2]]]
        kept.change(0, 2, weight)
        kept.come(new)
        weight[0], new[0][1][0] = 8, 7
        new.append([2, [1, 1]])
        self.right(kept, Web(4, ((0, 1, (3, 1)), (0, 2, (5, 1)), (1, 2, (2, 1)), (1, 3, (1, 2)))), kept.asked)

    def test_two_of_one_web(self):
        web = ring(5)
        one, other = Kept(web), Kept(web)
        one.change(0, 1, (4, 1)), one.go(3)
        self.right(other, web, 4)


class Refused(Case):
    def setUp(self):
        self.web = path(4, ((5, 1), (2, 1), (4, 1)))
        self.kept = Kept(self.web)
        self.kept.change(0, 3, (1, 1))
        self.was = (self.kept.web, self.kept.web.ties, self.kept.tree, self.kept.asked)

    def tearDown(self):
        self.assertEqual((self.kept.web, self.kept.web.ties, self.kept.tree, self.kept.asked), self.was)

    def test_change(self):
        for thing in NO_PLACES:
            self.refuses(NoPlace, self.kept.change, thing, 1, (1, 1))
            self.refuses(NoPlace, self.kept.change, 1, thing, thing)
        self.refuses(NoPlace, self.kept.change, 2, 2, (1, 1))
        for thing in NO_WEIGHTS:
            self.refuses(NoWeight, self.kept.change, 0, 1, thing)

    def test_come(self):
        for thing in NO_TIES:
            with self.assertRaises(NoTie) as caught:
                with_place(self.kept.web, thing)
            self.refuses(NoTie, self.kept.come, thing, at=caught.exception.at)

    def test_go(self):
        for thing in NO_PLACES:
            self.refuses(NoPlace, self.kept.go, thing)

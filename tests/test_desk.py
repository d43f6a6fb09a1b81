"""[37]: a desk, that leads a web and its cut tree on and goes back."""

from itertools import combinations

from cutstree.between import least_between
from cutstree.changes import changed, with_place, without_place
from cutstree.cuts import is_least_cut
from cutstree.cuttrees import is_cut_tree, tree_paper
from cutstree.desk import Desk
from cutstree.errors import NoPlace, NoTie, NotThere, NoWeight, OnePlace, TooMany
from cutstree.sides import side_weight
from cutstree.webs import Web
from cutstree.wholes import least_by_tree
from tests.seeking import all_cuts, amount, cut_of, least_of_sides
from tests.shapes import SOME, full, great_webs, in_pieces, path, ring, rows, small_webs
from tests.test_behind import NO_PLACES, NO_WEIGHTS
from tests.test_keeping import NO_TIES, WEIGHTS
from tests.test_ledtrees import asked_by_words
from tests.things import Case, numbers


def state(desk):
    return (desk.web.many, desk.web.ties, desk.tree)


class Led(Case):
    def right(self, desk, web):
        self.tells((desk.web.many, desk.web.ties), (web.many, web.ties))
        self.tells(desk.tree, desk.tree)
        self.assertIs(is_cut_tree(web, desk.tree, tree_paper(web, desk.tree)), True)

    def test_at_first(self):
        for web in small_webs() + great_webs()[::5] + [Web(1, ())]:
            desk = Desk(web)
            self.right(desk, web)
            self.refuses(NotThere, desk.back)

    def test_each_deed(self):
        desk = Desk(path(4, ((5, 1), (2, 1), (4, 1))))
        self.tells(desk.change(2, 1, [3, 1]), 1)
        self.right(desk, path(4, ((5, 1), (3, 1), (4, 1))))
        self.tells(desk.change(2, 1, [3, 1]), 0)
        took = desk.come([[3, [1, 2]]])
        self.tells(took, took)
        self.right(desk, path(5, ((5, 1), (3, 1), (4, 1), (1, 2))))
        took = desk.go(0)
        self.tells(took, took)
        self.right(desk, path(4, ((3, 1), (4, 1), (1, 2))))
        for left in (3, 2, 1, 0):
            self.tells(desk.back(), left)
        self.right(desk, path(4, ((5, 1), (2, 1), (4, 1))))
        self.refuses(NotThere, desk.back)

    def any_deed(self, desk, source):
        """One deed that the source makes, looked at."""
        web, tree, many = desk.web, desk.tree, desk.web.many
        deed = next(source) % 6
        if deed == 0 and many < 10:
            ties = [(place, WEIGHTS[next(source) % 8]) for place in range(many) if next(source) % 3 == 0]
            desk.come(ties)
            self.right(desk, with_place(web, ties))
        elif (deed == 1 and many > 1) or many > 9:
            place = next(source) % many
            desk.go(place)
            self.right(desk, without_place(web, place))
        elif many > 1:
            i = next(source) % many
            j, weight = (i + 1 + next(source) % (many - 1)) % many, WEIGHTS[next(source) % 8]
            self.tells(desk.change(i, j, weight), asked_by_words(web, tree, i, j, weight)[0])
            self.right(desk, changed(web, i, j, weight))
        else:
            desk.come(())

    def test_forth_and_back(self):
        source = numbers(229)
        for web in (ring(5), full(4, SOME), Web(1, ()), path(6)):
            desk, ahead = Desk(web), []
            for step in range(60):
                if next(source) % 3 == 0 and ahead:
                    was = ahead.pop()
                    self.tells(desk.back(), len(ahead))
                    self.tells(state(desk), was)
                elif len(ahead) < 60:
                    ahead.append(state(desk))
                    self.any_deed(desk, source)
            while ahead:
                was = ahead.pop()
                self.tells(desk.back(), len(ahead))
                self.tells(state(desk), was)
            self.refuses(NotThere, desk.back)
            self.tells(state(desk)[:2], (web.many, web.ties))

    def test_a_change_to_the_same_weight_is_taken_back_too(self):
        desk = Desk(ring(4))
        desk.change(0, 1, (5, 1))
        desk.change(0, 1, (5, 1))
        self.tells(desk.back(), 1)
        self.tells(desk.web.tie(0, 1), (5, 1))
        self.tells(desk.back(), 0)
        self.tells(desk.web.tie(0, 1), (1, 1))

    def test_sixty_and_one_more(self):
        desk = Desk(ring(4))
        for step in range(60):
            desk.change(0, 1, (step + 2, 1))
        was = state(desk)
        self.refuses(TooMany, desk.change, 0, 1, (1, 1), most=60)
        self.refuses(TooMany, desk.come, (), most=60)
        self.refuses(TooMany, desk.go, 0, most=60)
        self.tells(state(desk), was)
        self.tells(desk.back(), 59)
        desk.go(2)
        self.refuses(TooMany, desk.go, 0, most=60)
        for left in range(59, -1, -1):
            self.tells(desk.back(), left)
        self.right(desk, ring(4))
        self.refuses(NotThere, desk.back)

    def test_too_many_ahead_of_all(self):
        desk = Desk(ring(4))
        for step in range(60):
            desk.change(0, 2, (1, 1))
        was = state(desk)
        for thing in NO_PLACES:
            self.refuses(TooMany, desk.change, thing, 0, (1, 1), most=60)
            self.refuses(TooMany, desk.change, 0, 1, thing, most=60)
            self.refuses(TooMany, desk.come, thing, most=60)
            self.refuses(TooMany, desk.go, thing, most=60)
        self.tells(state(desk), was)
        full_desk = Desk(Web(40, ()))
        self.refuses(TooMany, full_desk.come, (), most=40)
        for step in range(60):
            full_desk.change(0, 1, (0, 1))
        self.refuses(TooMany, full_desk.come, (), most=60)

    def test_refused(self):
        desk = Desk(ring(4))
        desk.change(0, 2, (3, 1)), desk.come(())
        desk.back()
        was = state(desk)
        for thing in NO_PLACES:
            self.refuses(NoPlace, desk.change, thing, 1, (1, 1))
            self.refuses(NoPlace, desk.change, 1, thing, thing)
            self.refuses(NoPlace, desk.go, thing)
            self.refuses(NoPlace, desk.cut, 1, thing)
            self.refuses(NoPlace, desk.cut, thing, 1)
            self.refuses(NoPlace, desk.paper, 1, thing)
            self.refuses(NoPlace, desk.paper, thing, 1)
        for thing in NO_WEIGHTS:
            self.refuses(NoWeight, desk.change, 0, 1, thing)
        for thing in NO_TIES:
            with self.assertRaises(NoTie) as caught:
                with_place(desk.web, thing)
            self.refuses(NoTie, desk.come, thing, at=caught.exception.at)
        for place in range(4):
            for call in (desk.cut, desk.paper):
                self.refuses(NoPlace, call, place, place)
        self.tells(state(desk), was)
        self.tells(desk.back(), 0)
        self.right(desk, ring(4))

    def test_refusals_are_not_taken_back(self):
        desk = Desk(ring(4))
        for step in range(70):
            self.refuses(NoPlace, desk.go, 4)
        self.refuses(NotThere, desk.back)
        self.tells(desk.change(0, 1, (1, 1)), 0)
        self.tells(desk.back(), 0)

    def test_two_desks_of_one_web(self):
        web = full(5, SOME)
        one, other = Desk(web), Desk(web)
        was = state(other)
        one.change(0, 1, (9, 1)), one.go(2), one.come(())
        self.tells(state(other), was)
        self.refuses(NotThere, other.back)
        other.change(3, 4, (0, 1))
        other.back()
        self.tells(state(other), was)
        self.tells((one.web.many, one.back()), (5, 2))

    def test_lists_changed_behind_a_call(self):
        desk = Desk(Web(2, ()))
        weight, ties = [5, 1], [[1, [1, 2]]]
        desk.change(0, 1, weight), desk.come(ties)
        weight[0], ties[0][1][0] = 8, 7
        self.right(desk, Web(3, ((0, 1, (5, 1)), (1, 2, (1, 2)))))


class Asked(Case):
    def test_by_hand(self):
        desk = Desk(path(4, ((5, 1), (2, 1), (4, 1))))
        self.tells(desk.cut(0, 3), ((2, 1), (2, 3)))
        self.tells(desk.cut(1, 0), ((5, 1), (1, 2, 3)))
        self.tells(desk.least(), ((2, 1), (2, 3)))
        self.tells(desk.paper(2, 3), (rows([(2, 3, 4)]), (0, 1, 2)))

    def asked(self, desk):
        cuts = all_cuts(desk.web)
        for i, j in combinations(range(desk.web.many), 2):
            for one, other in ((i, j), (j, i)):
                self.tells(desk.cut(one, other), least_between(desk.tree, one, other))
                self.assertEqual(desk.cut(one, other)[0], amount(cuts[i, j]))
                paper = desk.paper(one, other)
                self.tells(paper, paper)
                self.assertIs(is_least_cut(desk.web, (one,), (other,), paper), True)
        self.tells(desk.least(), least_by_tree(desk.tree))
        self.assertEqual(desk.least()[0], amount(least_of_sides(desk.web)))
        self.assertEqual(side_weight(desk.web, desk.least()[1]), desk.least()[0])

    def test_of_many_webs(self):
        for web in small_webs()[::2] + [in_pieces(6)]:
            desk = Desk(web)
            self.asked(desk)
            desk.change(0, 1, (5, 3))
            self.asked(desk)
            desk.come(((0, (1, 1)), (1, (1, 3))))
            desk.back()
            self.asked(desk)
            desk.back()
            self.asked(desk)

    def test_great_webs(self):
        for web in great_webs()[::3]:
            desk = Desk(web)
            for i, j in ((0, web.many - 1), (4, 2)):
                self.assertIs(is_least_cut(web, (i,), (j,), desk.paper(i, j)), True)
                self.assertEqual(desk.cut(i, j)[0], side_weight(web, desk.paper(i, j)[1]))

    def test_one_place(self):
        desk = Desk(Web(1, ()))
        self.refuses(OnePlace, desk.least)
        for call in (desk.cut, desk.paper):
            self.refuses(NoPlace, call, 0, 0)
            self.refuses(NoPlace, call, 0, 1)
        desk.come(((0, (2, 1)),))
        self.tells(desk.least(), ((2, 1), (1,)))
        self.assertEqual(desk.cut(1, 0)[0], amount(cut_of(desk.web, 0, 1)))
        desk.back()
        self.refuses(OnePlace, desk.least)

    def test_asking_changes_nothing(self):
        desk = Desk(ring(5))
        was = state(desk)
        desk.cut(0, 2), desk.paper(0, 2), desk.least()
        self.tells(state(desk), was)
        self.refuses(NotThere, desk.back)

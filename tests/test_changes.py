"""[6]: a weight changed, a place that comes, a place that goes."""

from cutstree.changes import changed, with_place, without_place
from cutstree.errors import NoPlace, NoTie, NoWeight, TooMany
from cutstree.webs import Web
from tests.things import ODD, Case

TIES = ((0, 1, (1, 1)), (0, 3, (1, 2)), (1, 2, (5, 12)), (2, 3, (4, 1)))
NO_WEIGHTS = ODD + ((2, 2), (0, 2), (1, 13), (10 ** 12 + 1, 1), (-1, 1), (1,), (1, 1, 1), (True, 1), (1, True), 1, 0)
NO_PLACES = ODD + (4, 5, (0,), [1], "1", {1: 1})


class Changed(Case):
    def setUp(self):
        self.web = Web(4, TIES)

    def tearDown(self):
        self.tells(self.web.ties, TIES)
        self.tells(self.web.many, 4)

    def test_a_weight_changed(self):
        web = changed(self.web, 1, 2, (7, 3))
        self.tells(web.ties, ((0, 1, (1, 1)), (0, 3, (1, 2)), (1, 2, (7, 3)), (2, 3, (4, 1))))
        self.tells(web.many, 4)
        self.tells(web.tie(2, 1), (7, 3))
        self.tells(self.web.tie(2, 1), (5, 12))

    def test_either_order(self):
        for i, j, weight in TIES:
            self.tells(changed(self.web, j, i, [9, 1]).ties, changed(self.web, i, j, (9, 1)).ties)
            self.tells(changed(self.web, j, i, (9, 1)).tie(i, j), (9, 1))

    def test_made_nought(self):
        self.tells(changed(self.web, 3, 0, (0, 1)).ties, (TIES[0], TIES[2], TIES[3]))

    def test_made_new(self):
        self.tells(changed(self.web, 2, 0, [1, 3]).ties, (TIES[0], (0, 2, (1, 3)), TIES[1], TIES[2], TIES[3]))

    def test_nought_where_there_is_none(self):
        self.tells(changed(self.web, 0, 2, (0, 1)).ties, TIES)

    def test_as_it_was(self):
        self.tells(changed(self.web, 0, 1, (1, 1)).ties, TIES)

    def test_a_list_changed_behind_the_call(self):
        weight = [7, 3]
        web = changed(self.web, 1, 2, weight)
        weight[0] = 8
        self.tells(web.tie(1, 2), (7, 3))

    def test_no_place(self):
        for thing in NO_PLACES:
            self.refuses(NoPlace, changed, self.web, thing, 1, (1, 1))
            self.refuses(NoPlace, changed, self.web, 0, thing, (1, 1))
            self.refuses(NoPlace, changed, self.web, thing, thing, (1, 1))
        for place in range(4):
            self.refuses(NoPlace, changed, self.web, place, place, (1, 1))

    def test_no_weight(self):
        for thing in NO_WEIGHTS:
            self.refuses(NoWeight, changed, self.web, 0, 1, thing)
            self.refuses(NoWeight, changed, self.web, 2, 0, thing)

    def test_no_place_ahead_of_no_weight(self):
        self.refuses(NoPlace, changed, self.web, 0, 0, None)
        self.refuses(NoPlace, changed, self.web, 0, 4, (2, 2))
        self.refuses(NoPlace, changed, self.web, True, 2, "x")


class WithPlace(Case):
    def setUp(self):
        self.web = Web(4, TIES)

    def tearDown(self):
        self.tells(self.web.ties, TIES)
        self.tells(self.web.many, 4)

    def test_a_place_comes(self):
        ties = [[3, [1, 3]], (0, (2, 1))]
        web = with_place(self.web, ties)
        self.tells(web.many, 5)
        self.tells(web.ties, (TIES[0], TIES[1], (0, 4, (2, 1)), TIES[2], TIES[3], (3, 4, (1, 3))))
        self.assertEqual(ties, [[3, [1, 3]], (0, (2, 1))])

    def test_without_ties(self):
        for ties in ((), [], [(2, (0, 1))]):
            web = with_place(self.web, ties)
            self.tells(web.many, 5)
            self.tells(web.ties, TIES)

    def test_lists_changed_behind_the_call(self):
        weight = [1, 3]
        row = [1, weight]
        ties = [row]
        web = with_place(self.web, ties)
        weight[0], row[0] = 2, 2
        ties.append((0, (1, 1)))
        self.tells(web.tie(1, 4), (1, 3))
        self.assertEqual(len(web.ties), 5)

    def test_numbers_of_places(self):
        for many in (1, 38, 39):
            web = with_place(Web(many, ()), [(many - 1, (1, 2)), (0, (1, 3))][:many])
            self.tells(web.many, many + 1)
            self.tells(web.tie(many, many - 1), (1, 2))

    def test_too_many(self):
        self.refuses(TooMany, with_place, Web(40, ()), [(0, (1, 1))], most=40)
        self.refuses(TooMany, with_place, Web(40, ()), (), most=40)

    def test_too_many_ahead_of_no_tie(self):
        for ties in (None, [None], [(40, (1, 1))]):
            self.refuses(TooMany, with_place, Web(40, ()), ties, most=40)

    def test_no_row(self):
        for thing in ODD + (5, 0):
            if not isinstance(thing, (list, tuple)):
                self.refuses(NoTie, with_place, self.web, thing, at=0)

    def test_no_tie(self):
        right = [(3, (1, 1)), [1, [0, 1]]]
        wrong = tuple((thing, (1, 1)) for thing in NO_PLACES) + tuple((0, thing) for thing in NO_WEIGHTS)
        more = ((0,), (0, (1, 1), 0), (0, 1, (1, 1)), (0, 4, (1, 1)), (4, (1, 1)), {0: 0, 1: (1, 1)})
        for thing in wrong + more + ODD:
            for at in range(3):
                self.refuses(NoTie, with_place, self.web, right[:at] + [thing] + right[at:], at=at)

    def test_a_place_twice(self):
        self.refuses(NoTie, with_place, self.web, [(2, (1, 1)), (0, (1, 1)), [2, (1, 2)]], at=2)
        self.refuses(NoTie, with_place, self.web, [(2, (1, 1)), (2, (1, 1)), None], at=1)
        self.refuses(NoTie, with_place, self.web, [(2, (0, 1)), (2, (1, 1))], at=1)


class WithoutPlace(Case):
    def test_a_place_goes(self):
        web = Web(4, TIES)
        self.tells(without_place(web, 0).ties, ((0, 1, (5, 12)), (1, 2, (4, 1))))
        self.tells(without_place(web, 1).ties, ((0, 2, (1, 2)), (1, 2, (4, 1))))
        self.tells(without_place(web, 2).ties, ((0, 1, (1, 1)), (0, 2, (1, 2))))
        self.tells(without_place(web, 3).ties, ((0, 1, (1, 1)), (1, 2, (5, 12))))
        for place in range(4):
            self.tells(without_place(web, place).many, 3)
        self.tells(web.ties, TIES)

    def test_numbers_of_places(self):
        for many in (2, 39, 40):
            web = Web(many, [(i, i + 1, (i + 1, 1)) for i in range(many - 1)])
            self.tells(without_place(web, many - 1).ties, web.ties[:-1])
            self.tells(without_place(web, 0).many, many - 1)
            self.tells(without_place(web, 0).ties, tuple((i, i + 1, (i + 2, 1)) for i in range(many - 2)))

    def test_one_place_stays(self):
        self.refuses(NoPlace, without_place, Web(1, ()), 0)
        self.refuses(NoPlace, without_place, Web(1, ()), None)

    def test_no_place(self):
        web = Web(4, TIES)
        for thing in NO_PLACES:
            self.refuses(NoPlace, without_place, web, thing)
        self.tells(web.ties, TIES)

    def test_comes_and_goes(self):
        web = Web(4, TIES)
        self.tells(without_place(with_place(web, [(0, (1, 1)), (2, (1, 2))]), 4).ties, TIES)

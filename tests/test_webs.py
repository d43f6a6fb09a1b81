"""[5]: webs, their values, tie, and what is refused."""

from cutstree.errors import NoPlace, NoTie
from cutstree.webs import MOST_PLACES, Web
from tests.things import ODD, Case

NO_TIES = (
    (1, 0, (1, 1)), (1, 1, (1, 1)), (0, 3, (1, 1)), (-1, 1, (1, 1)), (0, True, (1, 1)), (False, 1, (1, 1)),
    (0, 1, 1), (0, 1), (0, 1, (1, 1), 0), (0, 1, (2, 2)), (0, 1, (0, 2)), (0, 1, (-1, 1)), (0, 1, (1, 13)),
    (0, 1, (10 ** 12 + 1, 1)), (0, 1, (True, 1)), (0, 1, None), (None, 1, (1, 1)), (0, "1", (1, 1)),
    ((0,), (1,), (1, 1)), (0, 10 ** 40, (1, 1)), {0: 0, 1: 1, 2: (1, 1)}, "abc", 7, (),
)


class Webs(Case):
    def test_most_places(self):
        self.assertEqual(MOST_PLACES, 40)

    def test_values(self):
        web = Web(4, [[2, 3, [1, 2]], (0, 1, (5, 12)), [0, 3, (7, 1)]])
        self.tells(web.many, 4)
        self.tells(web.ties, ((0, 1, (5, 12)), (0, 3, (7, 1)), (2, 3, (1, 2))))

    def test_rising_by_numbers(self):
        web = Web(12, [(9, 11, (1, 1)), (2, 10, (1, 1)), (10, 11, (1, 1)), (2, 3, (1, 1))])
        self.assertEqual([(i, j) for i, j, weight in web.ties], [(2, 3), (2, 10), (9, 11), (10, 11)])

    def test_nought_is_no_tie(self):
        web = Web(3, [(1, 2, (0, 1)), (0, 2, (1, 3)), [0, 1, [0, 1]]])
        self.tells(web.ties, ((0, 2, (1, 3)),))
        self.tells(web.tie(1, 2), (0, 1))
        self.tells(web.tie(0, 1), (0, 1))

    def test_tie_in_either_order(self):
        web = Web(4, [[1, 3, [5, 12]]])
        for i in range(4):
            for j in range(4):
                if i != j:
                    self.tells(web.tie(i, j), (5, 12) if {i, j} == {1, 3} else (0, 1))

    def test_numbers_of_places(self):
        for many in (1, 2, 39, 40):
            self.tells(Web(many, ()).many, many)
            self.tells(Web(many, []).ties, ())
        full = Web(40, [(i, j, (1, 1)) for i in range(40) for j in range(i + 1, 40)])
        self.assertEqual(len(full.ties), 780)

    def test_no_place(self):
        for many in ODD + (0, 41, 42, [], (), [3], (3,), "3", {3: 3}):
            self.refuses(NoPlace, Web, many, ())

    def test_no_place_ahead_of_no_tie(self):
        for many in (0, 41, True, None, "1"):
            self.refuses(NoPlace, Web, many, None)
            self.refuses(NoPlace, Web, many, [(0, 0, 0)])

    def test_no_row(self):
        for ties in ODD + (5, 0):
            if not isinstance(ties, (list, tuple)):
                self.refuses(NoTie, Web, 3, ties, at=0)

    def test_no_tie(self):
        right = [(0, 2, (1, 1)), [1, 2, [0, 1]]]
        for thing in NO_TIES + ODD:
            for at in range(3):
                self.refuses(NoTie, Web, 3, right[:at] + [thing] + right[at:], at=at)
                self.refuses(NoTie, Web, 3, tuple(right[:at] + [thing, thing]), at=at)

    def test_rows_of_odd_things(self):
        for ties in ODD:
            if isinstance(ties, (list, tuple)):
                self.refuses(NoTie, Web, 3, ties, at=0)

    def test_one_place_has_no_tie(self):
        self.refuses(NoTie, Web, 1, [(0, 1, (1, 1))], at=0)
        self.refuses(NoTie, Web, 1, [(0, 0, (1, 1))], at=0)

    def test_two_places_in_two_ties(self):
        one, other = (0, 1, (1, 1)), (1, 2, (1, 2))
        self.refuses(NoTie, Web, 3, [one, other, one], at=2)
        self.refuses(NoTie, Web, 3, [one, list(one), other], at=1)
        self.refuses(NoTie, Web, 3, [one, other, (1, 2, (2, 1)), None], at=2)
        self.refuses(NoTie, Web, 3, [one, other, None, (1, 2, (2, 1))], at=2)

    def test_two_places_in_two_ties_of_nought(self):
        self.refuses(NoTie, Web, 3, [(0, 1, (0, 1)), (0, 1, (1, 1))], at=1)
        self.refuses(NoTie, Web, 3, [(0, 1, (1, 1)), (0, 1, (0, 1))], at=1)
        self.refuses(NoTie, Web, 3, [(0, 1, (0, 1)), (0, 1, (0, 1))], at=1)

    def test_lists_changed_behind_the_call(self):
        weight = [1, 2]
        row = [0, 1, weight]
        ties = [row]
        web = Web(3, ties)
        self.assertEqual(ties, [[0, 1, [1, 2]]])
        weight[0] = 9
        row[1] = 2
        ties.append((1, 2, (1, 1)))
        self.tells(web.ties, ((0, 1, (1, 2)),))
        self.tells(web.tie(0, 1), (1, 2))
        self.tells(web.tie(0, 2), (0, 1))
        self.tells(web.tie(1, 2), (0, 1))

    def test_a_refused_call_changes_nothing(self):
        ties = [[1, 2, [1, 2]], [0, 1, [1, 1]], [0, 0, [1, 1]]]
        self.refuses(NoTie, Web, 3, ties, at=2)
        self.assertEqual(ties, [[1, 2, [1, 2]], [0, 1, [1, 1]], [0, 0, [1, 1]]])

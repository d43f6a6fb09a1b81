"""[7]: the pieces of a web."""

from cutstree.pieces import pieces
from cutstree.webs import Web
from tests.things import Case, made_web, numbers


def by_joining(web):
    """The pieces found another way: groups joined tie by tie."""
    group = list(range(web.many))
    for i, j, weight in web.ties:
        group = [group[i] if one == group[j] else one for one in group]
    rows = [tuple(place for place in range(web.many) if group[place] == one) for one in sorted(set(group))]
    return tuple(sorted(rows))


class Pieces(Case):
    def test_one(self):
        self.tells(pieces(Web(1, ())), ((0,),))
        self.tells(pieces(Web(4, [(0, 3, (1, 1)), (1, 3, (1, 2)), (1, 2, (1, 55440))])), ((0, 1, 2, 3),))

    def test_several(self):
        web = Web(7, [(0, 5, (1, 1)), (1, 4, (1, 2)), (2, 4, (3, 1)), (1, 2, (1, 1))])
        self.tells(pieces(web), ((0, 5), (1, 2, 4), (3,), (6,)))

    def test_none_tied(self):
        self.tells(pieces(Web(3, ())), ((0,), (1,), (2,)))
        self.tells(pieces(Web(40, ())), tuple((place,) for place in range(40)))

    def test_nought_joins_none(self):
        self.tells(pieces(Web(3, [(0, 1, (0, 1)), (1, 2, (1, 1))])), ((0,), (1, 2)))

    def test_a_long_way(self):
        self.tells(pieces(Web(40, [(i, i + 1, (1, 1)) for i in range(39)])), (tuple(range(40)),))

    def test_against_joining(self):
        source = numbers(7)
        for many in range(1, 13):
            for every in (2, 3):
                web = made_web(many, source, every=every)
                self.tells(pieces(web), by_joining(web))
        for step in range(60):
            ties = {(min(i, j), max(i, j)) for i, j in [(next(source) % 20, next(source) % 20) for k in range(step // 3)]}
            web = Web(20, [(i, j, (1, 1)) for i, j in sorted(ties) if i != j])
            self.tells(pieces(web), by_joining(web))

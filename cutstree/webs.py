"""Webs: places, and ties with weights between them."""

from cutstree.amounts import is_weight
from cutstree.errors import NoPlace, NoTie
from cutstree.kinds import is_between_places, is_row, is_whole

MOST_PLACES = 40


class Web:
    """A web of many places, the same for ever."""

    def __init__(self, many, ties):
        if not is_whole(many) or many < 1 or many > MOST_PLACES:
            raise NoPlace()
        self.many = many
        self.ties = kept_ties(many, ties)
        self.weights = {(i, j): weight for i, j, weight in self.ties}

    def tie(self, i, j):
        return self.weights.get((min(i, j), max(i, j)), (0, 1))


def kept_ties(many, ties):
    """The ties as tuples, rising, without those of weight nought."""
    if not is_row(ties):
        raise NoTie(0)
    weights = {}
    for at, row in enumerate(ties):
        if not is_tie(many, row) or (row[0], row[1]) in weights:
            raise NoTie(at)
        weights[(row[0], row[1])] = tuple(row[2])
    return tuple([(i, j, weight) for (i, j), weight in sorted(weights.items()) if weight[0] > 0])


def is_tie(many, thing):
    return is_between_places(many, thing) and is_weight(thing[2])

"""Webs of many kinds."""

from cutstree.amounts import plus
from cutstree.webs import Web
from tests.things import WEIGHTS, made_web, numbers

ONES = ((1, 1),)
SOME = ((1, 1), (5, 2), (1, 3), (4, 1), (7, 12))
THIN = ((1, 55440), (13, 55440), (1, 27720))
GREAT = ((10 ** 12, 1), (10 ** 12 - 1, 1), (999999999989, 16))
MIXED = ((10 ** 12, 1), (1, 55440), (3, 1))


def whole(many, ties):
    """A web whose weights are whole numbers."""
    return Web(many, [(i, j, (much, 1)) for i, j, much in ties])


def rows(flow):
    return tuple((i, j, (much, 1)) for i, j, much in flow)


def weighed(many, pairs, weights):
    """A web of these ties, the weights given in turn, again and again."""
    return Web(many, [(i, j, weights[at % len(weights)]) for at, (i, j) in enumerate(pairs)])


def path(many, weights=ONES):
    return weighed(many, [(i, i + 1) for i in range(many - 1)], weights)


def ring(many, weights=ONES):
    return weighed(many, [(i, i + 1) for i in range(many - 1)] + [(0, many - 1)], weights)


def star(many, weights=ONES, middle=0):
    return weighed(many, [(min(i, middle), max(i, middle)) for i in range(many) if i != middle], weights)


def ladder(many, weights=ONES):
    """Two paths of half of the places each, with rungs between them."""
    half = many // 2
    sides = [(i, i + 1) for i in range(many - 1) if i != half - 1]
    return weighed(many, sides + [(i, i + half) for i in range(half)], weights)


def full(many, weights=ONES):
    return weighed(many, [(i, j) for i in range(many) for j in range(i + 1, many)], weights)


def thick_halves(many, weights=SOME):
    """Two halves tied through and through, with one thin tie between them."""
    inside = [(i, j) for i in range(many) for j in range(i + 1, many) if (2 * i < many) == (2 * j < many)]
    web = weighed(many, inside, weights)
    return Web(many, list(web.ties) + [(0, many - 1, (1, 16))])


def in_pieces(many, weights=SOME):
    """Three pieces: the places by their rest over three."""
    return weighed(many, [(i, i + 3) for i in range(many - 3)], weights)


def necklace(many, weights=ONES):
    """A ring each of whose places has one more hung on it, twice as thick."""
    half = many // 2
    round_it = [(i, i + 1, (1, 1)) for i in range(half - 1)] + [(0, half - 1, (1, 1))]
    return Web(many, round_it + [(i, i + half, (2, 1)) for i in range(half)])


def small_webs():
    """Webs of at most six places, of many kinds, two places at least."""
    webs = [Web(2, ()), Web(5, ()), whole(2, [(0, 1, 3)])]
    for weights in (ONES, SOME, THIN, GREAT, MIXED):
        webs += [path(4, weights), ring(5, weights), ring(6, weights), star(5, weights), star(6, weights, 2)]
        webs += [ladder(6, weights), full(5, weights), thick_halves(6, weights), in_pieces(5, weights)]
    return webs + [necklace(6)]


def made_webs(seed, manys, steps):
    """Webs of any ties, more and more of them left out."""
    source = numbers(seed)
    for many in manys:
        for step in range(steps):
            weights = (WEIGHTS, ONES, ((1, 1), (2, 1)))[step % 3]
            yield made_web(many, source, weights=weights, every=1 + step % 5)


def great_webs():
    """Webs of up to forty places, of many kinds."""
    webs = [path(40, SOME), ring(40), ring(13, SOME), star(40, SOME), star(17, GREAT, 5), ladder(40, SOME), ladder(12)]
    webs += [full(12, THIN), full(40, SOME), thick_halves(40), thick_halves(14, MIXED), in_pieces(40), in_pieces(11)]
    return webs + [Web(40, ()), necklace(20)] + list(made_webs(41, (9, 40), 3))


def renamed(web, names):
    """The web with other numbers for its places: names[k] is that of k."""
    return Web(web.many, [(min(names[i], names[j]), max(names[i], names[j]), weight) for i, j, weight in web.ties])


def mixed_up(many, source):
    """The places in an order that the source makes."""
    return sorted(range(many), key=lambda place: (next(source), place))


def bunch(lengths, weight=(1, 1)):
    """Rings of these lengths that all share place 0; a ring of two is one tie of twice the weight."""
    ties, many = [], 1
    for length in lengths:
        round_it = [0] + list(range(many, many + length - 1))
        ties += ring_ties(round_it, weight)
        many += length - 1
    return Web(many, ties)


def ring_ties(places, weight=(1, 1)):
    if len(places) == 2:
        return [(min(places), max(places), plus(weight, weight))]
    steps = zip(places, places[1:] + places[:1])
    return [(min(step), max(step), weight) for step in steps]


def grown_rings(source, many):
    """Rings that hang on one another anywhere, some places of them two that are tied thick; numbered anyhow."""
    ties, places = [], 1
    while places < many:
        length = min(many - places + 1, 2 + next(source) % 5)
        round_it = [next(source) % places] + list(range(places, places + length - 1))
        ties += ring_ties(round_it)
        places += length - 1
    thick = [(place, many + at, (9, 1)) for at, place in enumerate(range(0, many, 3))]
    web = Web(many + len(thick), ties + thick)
    return renamed(web, mixed_up(web.many, source))

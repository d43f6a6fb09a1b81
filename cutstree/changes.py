"""Webs made of other webs: a weight changed, a place more, a place less."""

from cutstree.amounts import is_weight
from cutstree.errors import NoPlace, NoTie, NoWeight, TooMany
from cutstree.kinds import is_place, is_row, is_row_of, refuse_no_two_places
from cutstree.webs import MOST_PLACES, Web


def changed(web, i, j, weight):
    refuse_no_change(web, i, j, weight)
    low, high = min(i, j), max(i, j)
    kept = [row for row in web.ties if (row[0], row[1]) != (low, high)]
    return Web(web.many, kept + [(low, high, weight)])


def refuse_no_change(web, i, j, weight):
    refuse_no_two_places(web.many, i, j)
    if not is_weight(weight):
        raise NoWeight()


def with_place(web, ties):
    if web.many == MOST_PLACES:
        raise TooMany(MOST_PLACES)
    if not is_row(ties):
        raise NoTie(0)
    # The new ties stand first, so that Web tells a wrong one by the index it was handed in at.
    return Web(web.many + 1, [new_tie(web.many, row) for row in ties] + list(web.ties))


def new_tie(new, thing):
    """The tie from a place to the new one, or None, which is no tie."""
    return (thing[0], new, thing[1]) if is_row_of(thing, 2) else None


def without_place(web, place):
    if not is_place(web.many, place) or web.many == 1:
        raise NoPlace()
    kept = [row for row in web.ties if place not in (row[0], row[1])]
    ties = [(renumbered(i, place), renumbered(j, place), weight) for i, j, weight in kept]
    return Web(web.many - 1, ties)


def renumbered(other, gone):
    """The number that another place has when one is gone."""
    return other - 1 if other > gone else other

"""Sides: some places of a web, not all, and the ties that lead out of them."""

from cutstree.amounts import from_parts, parts
from cutstree.errors import NoSide
from cutstree.kinds import are_rising_places


def is_side(web, side):
    return are_rising_places(web.many, side) and 0 < len(side) < web.many


def side_weight(web, side):
    refuse_no_side(web, side)
    inside = {place: True for place in side}
    return from_parts(sum([parts(weight) for i, j, weight in web.ties if (i in inside) != (j in inside)]))


def others(web, side):
    refuse_no_side(web, side)
    return tuple([place for place in range(web.many) if place not in side])


def apart_from_nought(web, side):
    refuse_no_side(web, side)
    return others(web, side) if side[0] == 0 else tuple(side)


def refuse_no_side(web, side):
    if not is_side(web, side):
        raise NoSide()

"""Charts: sides that don't cross, the links, and rings of them, that together tell many sides."""

from cutstree.allcuts import is_all_least
from cutstree.errors import NoChart
from cutstree.heaps import joined
from cutstree.kinds import are_rising_places, is_place, is_rising, is_row, is_row_of


def is_chart(many, chart):
    return is_row_of(chart, 2) and are_links(many, chart[0]) and are_rings(chart[0], chart[1])


def chart_sides(many, chart):
    if not is_chart(many, chart):
        raise NoChart()
    links, rings = chart
    sides = [tuple(link) for link in links]
    for k, order in rings:
        sides.extend(ring_sides([links[at] for at in order]))
    return tuple(sorted(sides))


def is_least_chart(web, chart, paper):
    return is_chart(web.many, chart) and is_all_least(web, chart_sides(web.many, chart), paper)


def are_links(many, links):
    if not is_row(links) or not all([is_link(many, link) for link in links]):
        return False
    return is_rising([tuple(link) for link in links]) and not any_cross([bits(link) for link in links])


def is_link(many, thing):
    return are_rising_places(many, thing) and len(thing) > 0 and thing[0] > 0


def bits(side):
    """A number that has a bit for each place of a side, so that two sides are soon compared."""
    return sum([1 << place for place in side])


def any_cross(sides):
    """Whether two of some sides, told by their bits, cross."""
    for at, one in enumerate(sides):
        # A long row is soon left: of any 80 sides some two cross.
        if is_crossed(one, sides[:at]):
            return True
    return False


def is_crossed(one, sides):
    """Whether one of some sides crosses a side, all told by their bits."""
    return any([one & other not in (0, one, other) for other in sides])


def are_rings(links, rings):
    if not is_row(rings) or not all([is_row_of(ring, 2) and is_place(len(links), ring[0]) for ring in rings]):
        return False
    within = straight_within([bits(link) for link in links])
    return is_rising([ring[0] for ring in rings]) and all([is_ring(links, within[k], k, order) for k, order in rings])


def straight_within(sides):
    """For each of some sides that don't cross, told by their bits, the indexes of those straight within it, rising."""
    within = [[] for side in sides]
    for at, side in enumerate(sides):
        around = [k for k, other in enumerate(sides) if k != at and side & other == side]
        if around:
            # Those around a side lie within one another, so the least number is that of the one next to it.
            within[min(around, key=lambda k: sides[k])].append(at)
    return within


def is_ring(links, within, k, order):
    if not is_row(order) or not all([is_place(len(links), at) for at in order]) or sorted(order) != within:
        return False
    return len(order) >= 3 and order[0] < order[-1] and sum([len(links[at]) for at in order]) == len(links[k])


def ring_sides(row):
    """All unions of two or more that follow one another in a row of sides, but not of all."""
    many = len(row)
    runs = [(first, last) for first in range(many) for last in range(first + 2, many + 1)]
    return [joined(row[first:last]) for first, last in runs if last - first < many]

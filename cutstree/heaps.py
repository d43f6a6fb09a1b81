"""Heaps: places of a web that are drawn together, so that they count as one."""

from cutstree.amounts import parts
from cutstree.pushing import push_all
from cutstree.reaching import reached_from
from cutstree.rooms import places_onward


def heaped_rooms(web, heaps):
    """The rooms that the flow of no rows leaves between heaps, which are counted as they stand."""
    # A table and no Web, since what ties two heaps may be more than a weight can be.
    heap_of = {place: at for at, heap in enumerate(heaps) for place in heap}
    rooms = [[0] * len(heaps) for heap in heaps]
    for i, j, weight in web.ties:
        one, other = heap_of[i], heap_of[j]
        if one != other:
            rooms[one][other] += parts(weight)
            rooms[other][one] += parts(weight)
    return rooms


def joined(heaps):
    """All places of some heaps in one, rising."""
    return tuple(sorted([place for heap in heaps for place in heap]))


def part_two(rooms, one, other):
    """(weight, side): a least cut of two, in 55,440ths, and the side of the one; fills the rooms."""
    free = sum(rooms[one])
    push_all(rooms, (one,), (other,))
    return (free - sum(rooms[one]), reached_from(places_onward(rooms), (one,)))

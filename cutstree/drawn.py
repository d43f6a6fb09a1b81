"""A cut tree made by drawing sides together.

Heaps are a list of rising rows of places, hung together by rows (heap, heap, 55,440ths) of their indexes. Both lists
are changed in place as heaps are parted.
"""

from cutstree.amounts import from_parts
from cutstree.heaps import heaped_rooms, joined, part_two
from cutstree.reaching import places_beside, reached_from
from cutstree.trees import row_between


def drawn_tree(web):
    return grown_tree(web, [tuple(range(web.many))], [])


def grown_tree(web, heaps, rows):
    """(tree, asked): parts heaps till each is one place; the rows must be least cuts of some two, one of each heap."""
    asked = 0
    while len(heaps) < web.many:
        part_heap(web, heaps, rows, first_to_part(heaps))
        asked += 1
    tree = [row_between(heaps[one][0], heaps[other][0], from_parts(much)) for one, other, much in rows]
    return (tuple(sorted(tree)), asked)


def first_to_part(heaps):
    """The index of the heap with the least place among those of two places or more."""
    return min([(heap[0], at) for at, heap in enumerate(heaps) if len(heap) > 1])[1]


def part_heap(web, heaps, rows, at):
    """Parts the least two places of a heap: one half of it stays at its index, the other one comes last."""
    heap = heaps[at]
    hung = [other_end(row, at) for row in rows if at in row[:2]]
    drawn = [(place,) for place in heap] + [places_behind(heaps, rows, at, one) for one in hung]
    weight, side = part_two(heaped_rooms(web, drawn), 0, 1)
    moved = {one: True for k, one in enumerate(hung, start=len(heap)) if k not in side}
    rows[:] = [moved_row(row, at, len(heaps), moved) for row in rows] + [(at, len(heaps), weight)]
    heaps[at] = tuple([place for k, place in enumerate(heap) if k in side])
    heaps.append(tuple([place for k, place in enumerate(heap) if k not in side]))


def other_end(row, at):
    return row[1] if row[0] == at else row[0]


def places_behind(heaps, rows, at, heap):
    """All places that lie behind the row from the heap at an index to another heap."""
    beside = places_beside(len(heaps), [(one, other) for one, other, much in rows if at not in (one, other)])
    return joined([heaps[one] for one in reached_from(beside, (heap,))])


def moved_row(row, at, new, moved):
    """The row, from the new heap instead of the parted one if it leads to a heap that moves."""
    heap = other_end(row, at)
    return (new, heap, row[2]) if at in row[:2] and heap in moved else row

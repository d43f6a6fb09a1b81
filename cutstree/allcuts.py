"""All least sides of a web, none left out, and the paper that shows it."""

from cutstree.amounts import parts
from cutstree.errors import InPieces, TooMany
from cutstree.flows import worth_in_parts
from cutstree.kinds import is_rising, is_row, is_row_of
from cutstree.pieces import pieces
from cutstree.pushing import pushed_flow
from cutstree.reaching import not_reached_from
from cutstree.rooms import places_onward, rooms_left
from cutstree.sides import is_side, side_weight
from cutstree.wholes import refuse_one_place

MOST_SOUGHT = 16


def all_least(web):
    paper = all_paper(web)
    worths = worths_of(web, paper)
    least = min(worths)
    sides = []
    for k in range(1, web.many):
        if worths[k - 1] == least:
            sides.extend(sides_of(places_onward(rooms_left(web, paper[k - 1])), k))
    return tuple(sorted(sides))


def how_many_least(web):
    refuse_one_place(web)
    found = len(pieces(web))
    return len(all_least(web)) if found == 1 else (1 << (found - 1)) - 1


def firm(web):
    sides = all_least(web)
    rows = {}
    for place in range(web.many):
        rows.setdefault(tuple([place in side for side in sides]), []).append(place)
    return tuple([tuple(row) for row in rows.values()])


def all_paper(web):
    refuse_one_place(web)
    if len(pieces(web)) > 1:
        raise InPieces()
    if web.many > MOST_SOUGHT:
        raise TooMany(MOST_SOUGHT)
    return tuple([pushed_flow(web, tuple(range(k)), (k,)) for k in range(1, web.many)])


def is_all_least(web, sides, paper):
    if web.many == 1 or len(pieces(web)) > 1 or not are_sides_of_one_weight(web, sides):
        return False
    if not is_row_of(paper, web.many - 1):
        return False
    worths = worths_of(web, paper)
    least = parts(side_weight(web, sides[0]))
    if None in worths or min(worths) < least:
        return False
    known = {tuple(side): True for side in sides}
    return all([are_all_at(web, known, k, paper[k - 1], worths[k - 1] > least) for k in range(1, web.many)])


def worths_of(web, paper):
    """What each flow of a paper is worth, in 55,440ths; None where it is no flow."""
    return [worth_in_parts(web, tuple(range(k)), (k,), flow) for k, flow in enumerate(paper, start=1)]


def are_sides_of_one_weight(web, sides):
    """Whether it is a rising row of sides without place 0, one at least, all of one weight."""
    if not is_row(sides) or not all([is_side(web, side) and side[0] > 0 for side in sides]):
        return False
    if len(sides) == 0 or not is_rising([tuple(side) for side in sides]):
        return False
    weight = side_weight(web, sides[0])
    return all([side_weight(web, side) == weight for side in sides])


def are_all_at(web, known, k, flow, is_above):
    """Whether the flow to k, whose worth is above the least weight or just that, shows all sides of least place k."""
    here = [side for side in known if side[0] == k]
    if is_above:
        return not here
    onward = places_onward(rooms_left(web, flow))
    widest = not_reached_from(onward, tuple(range(k)))
    if widest not in here:
        return False
    return all([narrower in known for side in here for narrower in narrower_sides(onward, side)])


def sides_of(onward, k):
    """All least sides whose least place is k, by where there is room behind a greatest flow to k."""
    widest = not_reached_from(onward, tuple(range(k)))
    found = {widest: True}
    waiting = [widest]
    while waiting:
        side = waiting.pop()
        for narrower in narrower_sides(onward, side):
            if narrower not in found:
                found[narrower] = True
                waiting.append(narrower)
    return list(found)


def narrower_sides(onward, side):
    """What is left of a side when one more place goes out, with all that it reaches; only where the least one stays."""
    out = [place for place in range(len(onward)) if place not in side]
    left = [not_reached_from(onward, out + [place]) for place in side[1:]]
    return [one for one in left if side[0] in one]

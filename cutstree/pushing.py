"""A greatest flow by pushing: what is too much at a place goes on to lower ones, and places are lifted for it."""

from cutstree.flows import refuse_no_ends
from cutstree.rooms import all_rooms, flow_of, steps_left


def pushed_flow(web, froms, tos):
    refuse_no_ends(web, froms, tos)
    rooms = all_rooms(web)
    push_all(rooms, froms, tos)
    return flow_of(web, rooms)


def push_all(rooms, froms, tos):
    """Changes the rooms into those that a flow of the greatest worth leaves."""
    heights = first_heights(rooms, froms, tos)
    extra = first_extra(rooms, froms)
    inner = [place for place in range(len(rooms)) if place not in froms and place not in tos]
    here = highest(heights, extra, inner)
    while here is not None:
        unload(rooms, heights, extra, here)
        here = highest(heights, extra, inner)


def first_heights(rooms, froms, tos):
    """The froms as high as there are places, so that no way leads down from one, a step at a time, to a to."""
    many = len(rooms)
    left = steps_left(rooms, tos, 1)
    return [many if left[place] is None or place in froms else left[place] for place in range(many)]


def first_extra(rooms, froms):
    """Fills all rooms out of the froms; for each place what it has too much then."""
    extra = [0] * len(rooms)
    for place in froms:
        for there in range(len(rooms)):
            if there not in froms:
                push(rooms, extra, place, there, rooms[place][there])
    return extra


def push(rooms, extra, here, there, much):
    rooms[here][there] -= much
    rooms[there][here] += much
    extra[here] -= much
    extra[there] += much


def highest(heights, extra, inner):
    """The highest place within that has too much, None if there is none."""
    full = [place for place in inner if extra[place] > 0]
    return max(full, key=lambda place: heights[place]) if full else None


def unload(rooms, heights, extra, here):
    """Pushes on all that a place has too much."""
    push_down(rooms, heights, extra, here)
    while extra[here] > 0:
        lift(rooms, heights, here)
        push_down(rooms, heights, extra, here)


def lift(rooms, heights, here):
    """Lifts a place as little as will let it push on."""
    left = heights[here]
    # What came in could go back, so there is room to some place.
    heights[here] = 1 + min([heights[there] for there, room in enumerate(rooms[here]) if room > 0])
    if left not in heights:
        lift_above(heights, left)


def lift_above(heights, gap):
    """Lifts the places above a height where none is left: nothing leads down from them to a to any more."""
    many = len(heights)
    for place in range(many):
        if gap < heights[place] < many:
            heights[place] = many


def push_down(rooms, heights, extra, here):
    for there in range(len(rooms)):
        much = min(extra[here], rooms[here][there])
        if much > 0 and heights[there] < heights[here]:
            push(rooms, extra, here, there, much)

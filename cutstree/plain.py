"""A cut tree made in the web itself, without drawing places together."""

from cutstree.amounts import from_parts
from cutstree.heaps import part_two
from cutstree.rooms import all_rooms
from cutstree.trees import row_between


def plain_tree(web):
    hangs_on = [None] + [0] * (web.many - 1)
    amounts = [0] * web.many
    asked = 0
    for place in range(1, web.many):
        hang(web, hangs_on, amounts, place)
        asked += 1
    rows = [row_between(place, hangs_on[place], from_parts(amounts[place])) for place in range(1, web.many)]
    return (tuple(sorted(rows)), asked)


def hang(web, hangs_on, amounts, place):
    """Parts a place from the one it hangs on, and hangs what is on its side on it."""
    above = hangs_on[place]
    weight, side = part_two(all_rooms(web), place, above)
    amounts[place] = weight
    for other in side:
        if other != place and hangs_on[other] == above:
            hangs_on[other] = place
    if hangs_on[above] in side:
        hangs_on[place], hangs_on[above] = hangs_on[above], place
        amounts[place], amounts[above] = amounts[above], weight

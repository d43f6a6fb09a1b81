"""What kind of thing a thing is: whole numbers, rows, places."""

from cutstree.errors import NoPlace


def is_whole(thing):
    return isinstance(thing, int) and not isinstance(thing, bool)


def is_row(thing):
    return isinstance(thing, (list, tuple))


def is_row_of(thing, length):
    return is_row(thing) and len(thing) == length


def is_place(many, thing):
    return is_whole(thing) and 0 <= thing < many


def are_unlike_places(many, i, j):
    return is_place(many, i) and is_place(many, j) and i != j


def refuse_no_two_places(many, i, j):
    if not are_unlike_places(many, i, j):
        raise NoPlace()


def is_between_places(many, thing):
    """Whether it is a row of three, the first two of them places, the lower one first."""
    return is_row_of(thing, 3) and are_unlike_places(many, thing[0], thing[1]) and thing[0] < thing[1]


def is_rising(row):
    return all([one < other for one, other in zip(row, row[1:])])


def are_rising_places(many, thing):
    """Whether it is a rising row of places, perhaps of none."""
    return is_row(thing) and all([is_place(many, one) for one in thing]) and is_rising(thing)

"""What kind of thing a thing is: whole numbers, rows, places."""


def is_whole(thing):
    return isinstance(thing, int) and not isinstance(thing, bool)


def is_row(thing):
    return isinstance(thing, (list, tuple))


def is_row_of(thing, length):
    return is_row(thing) and len(thing) == length


def is_place(many, thing):
    return is_whole(thing) and 0 <= thing < many


def are_unlike_places(many, i, j):
    return is_place(many, i) and is_place(many, j) and i != j

"""Webs, trees, flows and sides shown as texts, and read from them."""

from cutstree.errors import NoLine, NoTie
from cutstree.webs import MOST_PLACES, Web
from cutstree.words import amount_of, amount_text, place_of, said_lines


def show_web(web):
    return text_of([f"places {web.many}"] + [row_line("tie", row) for row in web.ties])


def show_tree(tree):
    return text_of([row_line("branch", row) for row in tree])


def show_flow(flow):
    return text_of([row_line("flow", row) for row in flow])


def show_sides(sides):
    return text_of([" ".join(["side"] + [str(place) for place in side]) for side in sides])


def read_web(text):
    lines = said_lines(text)
    if not lines:
        raise NoLine(text.count("\n"))
    many = many_in(lines[0][1])
    if many is None:
        raise NoLine(lines[0][0])
    try:
        return Web(many, [row_in(words, "tie") for at, words in lines[1:]])
    except NoTie as wrong:
        raise NoLine(lines[1 + wrong.at][0]) from None


def read_tree(text):
    return read_rows([(at, row_in(words, "branch")) for at, words in said_lines(text)])


def read_flow(text):
    return read_rows([(at, row_in(words, "flow")) for at, words in said_lines(text)])


def read_sides(text):
    return read_rows([(at, side_in(words)) for at, words in said_lines(text)])


def text_of(lines):
    return "".join([line + "\n" for line in lines])


def row_line(name, row):
    i, j, amount = row
    return f"{name} {i} {j} {amount_text(amount)}"


def read_rows(lines):
    """The rows of some lines (number, row), the row None where the line is none."""
    for at, row in lines:
        if row is None:
            raise NoLine(at)
    return tuple([row for at, row in lines])


def many_in(words):
    """The number of places that a web's first line tells, None if it tells none."""
    many = place_of(words[1]) if len(words) == 2 and words[0] == "places" else None
    return many if many is not None and 1 <= many <= MOST_PLACES else None


def row_in(words, name):
    """The row (i, j, amount) of a line that begins with this name, None if it is none."""
    if len(words) != 4 or words[0] != name:
        return None
    row = (place_of(words[1]), place_of(words[2]), amount_of(words[3]))
    return None if None in row else row


def side_in(words):
    if len(words) < 2 or words[0] != "side":
        return None
    side = tuple([place_of(word) for word in words[1:]])
    return None if None in side else side

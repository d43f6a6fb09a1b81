"""[35], [36]: webs, trees, flows and sides as texts."""

from itertools import product

from cutstree.allcuts import all_least
from cutstree.drawn import drawn_tree
from cutstree.errors import NoLine
from cutstree.shortest import shortest_flow
from cutstree.texts import read_flow, read_sides, read_tree, read_web, show_flow, show_sides, show_tree, show_web
from cutstree.webs import Web
from tests.shapes import great_webs, ring, small_webs
from tests.things import Case, as_lists

TIES = ((0, 1, (3, 1)), (0, 2, (5, 12)), (1, 2, (10 ** 12, 1)))
TEXT = "places 3\ntie 0 1 3\ntie 0 2 5/12\ntie 1 2 1000000000000\n"
ROWS = (("branch", show_tree, read_tree), ("flow", show_flow, read_flow))
LONG = 10 ** 30 - 1
NO_NUMBERS = ("00", "01", "007", "100", "123456", "a", "1a", "a1", "/", "1/", "/1", "1/2", "-1", "+1", "1.0", "1_0", "x" * 50)
NO_AMOUNTS = (
    "00", "01", "03/4", "3/04", "2/4", "5/5", "0/5", "0/1", "1/1", "7/1", "3/0", "0/0", "/", "1/", "/2", "1//2", "1/2/3",
    "a", "1a", "1/b", "-1", "1/-2", "+1", "1.5", "1" + "0" * 30, "1/1" + "0" * 30, "9" * 5000, "1/" + "9" * 5000,
)
# Signs that aren't told: Python takes some of them for digits or for blanks.
ODD_SIGNS = ("\t", "\r", "\x0b", "\x0c", "\x1c", "\x85", "\u00a0", "\u2028", "\u00b2", "\u0663", "\uff11", "_", "+", "-", ".", "A")


class Shown(Case):
    def test_webs(self):
        self.tells(show_web(Web(3, TIES)), TEXT)
        self.tells(show_web(Web(3, TIES[::-1])), TEXT)
        self.tells(show_web(Web(1, ())), "places 1\n")
        self.tells(show_web(Web(40, ((0, 39, (0, 1)),))), "places 40\n")
        self.tells(show_web(Web(12, ((9, 11, (7, 16)),))), "places 12\ntie 9 11 7/16\n")

    def test_rows(self):
        for name, show, read in ROWS:
            self.tells(show(()), "")
            self.tells(show(((0, 1, (3, 1)), (1, 2, (5, 12)))), f"{name} 0 1 3\n{name} 1 2 5/12\n")
            self.tells(show([[1, 0, [0, 1]], (2, 10, [1, 55440])]), f"{name} 1 0 0\n{name} 2 10 1/55440\n")
            self.tells(show(((5, 3, (LONG, 1)), (0, 0, (1, LONG)))), f"{name} 5 3 {LONG}\n{name} 0 0 1/{LONG}\n")

    def test_sides(self):
        self.tells(show_sides(()), "")
        self.tells(show_sides(((1,), (1, 2, 30), [4, 3])), "side 1\nside 1 2 30\nside 4 3\n")

    def test_nothing_handed_in_is_changed(self):
        tree = as_lists(TIES)
        show_tree(tree), show_flow(tree)
        self.assertEqual(tree, as_lists(TIES))


class ReadBack(Case):
    def test_webs(self):
        for web in small_webs() + great_webs()[:7] + [Web(1, ())]:
            back = read_web(show_web(web))
            self.assertIsInstance(back, Web)
            self.tells((back.many, back.ties), (web.many, web.ties))

    def test_trees_flows_and_sides(self):
        for web in small_webs() + great_webs()[:7]:
            tree = drawn_tree(web)[0]
            self.tells(read_tree(show_tree(tree)), tree)
            flow = shortest_flow(web, (0,), (web.many - 1,))[0]
            self.tells(read_flow(show_flow(flow)), flow)
        for web in (ring(5), ring(16)):
            self.tells(read_sides(show_sides(all_least(web))), all_least(web))

    def test_whatever_rows(self):
        rows = ((99, 0, (LONG, LONG - 1)), (5, 5, (0, 1)), (5, 5, (0, 1)), (3, 1, (1, 13)), (0, 1, (2, LONG)))
        for name, show, read in ROWS:
            self.tells(read(show(rows)), rows)
            self.tells(read(show(rows[::-1])), rows[::-1])
        sides = ((99,), (3, 1, 1), (0,), (0,))
        self.tells(read_sides(show_sides(sides)), sides)


class Blanks(Case):
    def test_webs(self):
        for text in (TEXT, TEXT[:-1], "\n\n" + TEXT, TEXT + "\n \n", TEXT.replace(" ", "   "), TEXT.replace("\n", "\n\n"),
                     "  " + TEXT.replace("\n", "  \n  "), " \n" + TEXT + "   ", TEXT.replace("\n", " \n     \n ")):
            web = read_web(text)
            self.tells((web.many, web.ties), (3, TIES))
        self.tells(read_web("places 1").ties, ())
        self.tells(read_web("\n  \n places   7  ").many, 7)

    def test_ties_in_any_order(self):
        web = read_web("places 3\ntie 1 2 1000000000000\ntie 0 1 3\ntie 0 2 5/12\n")
        self.tells((web.many, web.ties), (3, TIES))

    def test_ties_of_weight_nought(self):
        self.tells(read_web("places 3\ntie 0 2 0\ntie 0 1 3\n").ties, TIES[:1])
        self.refuses(NoLine, read_web, "places 3\ntie 0 2 0\ntie 0 1 3\n\ntie 0 2 1\n", at=4)

    def test_rows_and_sides(self):
        for name, show, read in ROWS:
            for text in ("", "\n", "   ", " \n  \n"):
                self.tells(read(text), ())
            self.tells(read(f"\n {name}  0   1 3 \n\n{name} 1 2 5/12"), ((0, 1, (3, 1)), (1, 2, (5, 12))))
        for text in ("", "\n", "   ", " \n  \n"):
            self.tells(read_sides(text), ())
        self.tells(read_sides("\n side  1   2 \n\nside 0"), ((1, 2), (0,)))


class NoLines(Case):
    def rows_refused(self, line):
        """Each reader refuses this line, by its number, and goes by the first of two."""
        for name, show, read in ROWS:
            wrong, right = line.replace("row", name, 1), f"{name} 0 1 2"
            for ahead in ("", "\n\n", right + "\n", f"\n {right}\n  \n{right}\n"):
                for behind in ("", "\n", "\n" + right, "\nno line\n"):
                    self.refuses(NoLine, read, ahead + wrong + behind, at=ahead.count("\n"))

    def test_rows(self):
        lines = ["row", "row 0", "row 0 1", "row 0 1 2 3", "rows 0 1 2", "ro 0 1 2", "side 1", "places 3", "tie 0 1 2", "0 1 2",
                 "0 1 2 row", "x row 0 1 2", "row/ 0 1 2", "row0 1 2 3", "0 row 1 2", "r ow 0 1 2", "row 0 12"]
        lines += [f"row {word} 1 2" for word in NO_NUMBERS] + [f"row 1 {word} 2" for word in NO_NUMBERS]
        lines += [f"row 0 1 {word}" for word in NO_AMOUNTS]
        for line in lines:
            self.rows_refused(line)
        self.refuses(NoLine, read_tree, "flow 0 1 2", at=0)
        self.refuses(NoLine, read_flow, "branch 0 1 2", at=0)

    def test_sides(self):
        lines = ["side", "side ", "sides 1", "sid 1", "1 2", "row 0 1 2", "tie 0 1 2", "branch 0 1 2", "1 side", "side1"]
        lines += [f"side {word}" for word in NO_NUMBERS] + [f"side 1 2 {word} 3" for word in NO_NUMBERS]
        for line in lines:
            for ahead in ("", "\n", "side 1 2\n", " \nside 3\n\n"):
                for behind in ("", "\n", "\nside 4\n", "\nside\n"):
                    self.refuses(NoLine, read_sides, ahead + line + behind, at=ahead.count("\n"))

    def test_a_web_s_first_line(self):
        lines = ["places", "places 0", "places 41", "places 99", "places 3 3", "place 3", "3", "3 places", "places3", "x",
                 "tie 0 1 2", "branch 0 1 2", "side 1", "places 3/1"] + [f"places {word}" for word in NO_NUMBERS]
        for line in lines:
            for ahead in ("", "\n", "  \n\n"):
                for behind in ("", "\n", "\nplaces 3\n", "\ntie 0 1 2", "\nx\n"):
                    self.refuses(NoLine, read_web, ahead + line + behind, at=ahead.count("\n"))
        self.tells(read_web("places 40").many, 40)

    def test_a_web_s_ties(self):
        lines = ["tie", "tie 0 1", "tie 0 1 2 3", "tie 1 0 2", "tie 1 1 2", "tie 0 3 2", "tie 3 4 2", "tie 0 99 2", "ties 0 1 2",
                 "branch 0 1 2", "flow 0 1 2", "side 1", "places 3", "places 4", "0 1 2", "tie 0 2 1/13",
                 "tie 0 2 1000000000001", "tie 0 2 1/110880", "tie 0 2 " + "9" * 30, "tie 0 1 7", "tie 0 1 3", "tie 0 1 0"]
        lines += [f"tie {word} 2 2" for word in NO_NUMBERS] + [f"tie 0 {word} 2" for word in NO_NUMBERS]
        lines += [f"tie 0 2 {word}" for word in NO_AMOUNTS]
        for line, ahead in product(lines, ("places 3\ntie 0 1 3\n", "\n\nplaces 3\n \n tie 0 1 3 \n\n")):
            for behind in ("", "\n", "\ntie 1 2 1\n", "\ntie 0 1 4\n", "\nx\n"):
                self.refuses(NoLine, read_web, ahead + line + behind, at=ahead.count("\n"))

    def test_no_line_says_anything(self):
        for text in ("", " ", "\n", "\n\n\n", "  \n   \n", "\n \n  "):
            self.refuses(NoLine, read_web, text, at=text.count("\n"))

    def test_signs_that_are_not_told(self):
        for sign in ODD_SIGNS:
            for name, show, read in ROWS:
                for line in (f"{name} 0 1 {sign}", f"{name} {sign} 1 2", f"{name} 0 1 2{sign}", f"{name}{sign}0 1 2", sign):
                    self.refuses(NoLine, read, f"\n{name} 0 1 2\n{line}\n", at=2)
            self.refuses(NoLine, read_sides, f"side 1\nside 1{sign}2", at=1)
            self.refuses(NoLine, read_web, f"places 3{sign}", at=0)
            self.refuses(NoLine, read_web, f"places 3\ntie 0 1 2\n{sign}\n", at=2)

    def test_the_most_digits(self):
        for name, show, read in ROWS:
            self.tells(read(f"{name} 99 10 {LONG}/{LONG - 1}"), ((99, 10, (LONG, LONG - 1)),))
            self.refuses(NoLine, read, f"{name} 99 100 1", at=0)
            self.refuses(NoLine, read, f"{name} 9 10 {LONG + 1}", at=0)
            self.refuses(NoLine, read, f"{name} 9 10 1/{LONG + 1}", at=0)
        self.tells(read_sides("side 99 0"), ((99, 0),))
        self.refuses(NoLine, read_sides, "side 99 100", at=0)

    def test_long_texts(self):
        text = "side " + "1 " * 3997
        self.tells(read_sides(text), ((1,) * 3997,))
        self.tells(read_tree("branch 0 1 2\n" * 600), ((0, 1, (2, 1)),) * 600)
        self.refuses(NoLine, read_web, "\n" * 8000, at=8000)

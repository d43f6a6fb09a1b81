"""Things that many tests share: odd things, what may be told, small webs."""

import unittest

from cutstree.errors import CutError
from cutstree.webs import Web


def nested(depth):
    thing = 0
    for step in range(depth):
        thing = [thing] if step % 2 else (thing,)
    return thing


# Whatever a thing may be: none of these is an amount, a tie, a place, a side of a web, ends or a flow's row.
ODD = (
    None, True, False, -1, -(10 ** 60), 10 ** 60, 1 << 4000, "", "0", "01", "(0, 1)", {}, {0: 1}, {"a": [1, 2]},
    {(0, 1): 2}, [None], (None, None), [True], (False, True), [True, 1], ["0", "1"], [[]], ((), ()), [{}, {}],
    (None, 0, 1), ("a", "b", "c"), [[0, 1], [0, 1], [0, 1]], nested(10), [nested(9), nested(9)],
    {"deep": nested(8)}, (0, 1, {}), [0, 1, None], [1 << 4000, -1], [-1] * 19999, ["x"] * 19999, [[None]] * 9999,
)


def as_lists(thing):
    return [as_lists(one) for one in thing] if isinstance(thing, tuple) else thing


def is_told(thing):
    """Whether it is of tuples, texts, numbers, truths, None and Webs alone, through and through."""
    if type(thing) is tuple:
        return all(is_told(one) for one in thing)
    return thing is None or type(thing) in (int, str, bool, Web)


def numbers(seed):
    """A row of numbers without end, the same for the same seed."""
    while True:
        seed = (seed * 6364136223846793005 + 1442695040888963407) % (1 << 64)
        yield seed >> 33


WEIGHTS = ((1, 1), (2, 1), (3, 1), (1, 2), (5, 2), (1, 3), (4, 3), (7, 12), (1, 55440), (9, 16), (10 ** 12, 1), (1, 11))


def made_web(many, source, weights=WEIGHTS, every=2):
    """A web with some of its ties, of these weights: about one in `every` is left out."""
    ties = []
    for i in range(many):
        for j in range(i + 1, many):
            if next(source) % every or every == 1:
                ties.append((i, j, weights[next(source) % len(weights)]))
    return Web(many, ties)


class Case(unittest.TestCase):
    def refuses(self, error, call, *args, **fields):
        """The call raises just this class, with these fields."""
        with self.assertRaises(CutError) as caught:
            call(*args)
        self.assertIs(type(caught.exception), error)
        for name, value in fields.items():
            self.assertEqual(getattr(caught.exception, name), value)
            self.assertIs(type(getattr(caught.exception, name)), type(value))

    def tells(self, told, value):
        """Just this value, and nothing that could be changed."""
        self.assertTrue(is_told(told), told)
        self.assertIs(type(told), type(value))
        self.assertEqual(told, value)

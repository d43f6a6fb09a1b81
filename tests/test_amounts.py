"""[4]: amounts and weights, and what is reckoned with them."""

from fractions import Fraction

from cutstree.amounts import BELOW, MOST_ABOVE, half, is_amount, is_below, is_weight, less, plus, total
from cutstree.errors import NoWeight
from tests.things import ODD, Case

AMOUNTS = ((0, 1), (1, 1), (2, 1), (1, 2), (1, 3), (5, 12), (7, 12), (11, 13), (1, 55440), (55439, 55440),
           (10 ** 12, 1), (10 ** 40 + 1, 10 ** 40), (3, 55441))
NO_AMOUNTS = (
    (0, 2), (0, 55440), (2, 2), (2, 4), (6, 3), (10, 55440), (-1, 1), (-1, 2), (1, -1), (0, -1), (-1, -1), (1, 0),
    (0, 0), (True, 1), (1, True), (False, 1), (True, True), (1,), (), (1, 1, 1), (1, None), ("1", 1), (1, "1"),
    ((1,), 1), (1, (1,)), ((1, 1),), ((0, 1), (1, 1)), ([1, 1], [1, 1]), ({}, 1), (1, {}), "11", {0: 1, 1: 1},
    5, 0, 10 ** 30,
)


def divisors(number):
    return [below for below in range(1, number + 1) if number % below == 0]


def fraction(amount):
    return Fraction(amount[0], amount[1])


def amount(number):
    return (number.numerator, number.denominator)


class Kinds(Case):
    def test_bounds(self):
        self.assertEqual(MOST_ABOVE, 1000000000000)
        self.assertEqual(BELOW, 55440)

    def test_amounts(self):
        for one in AMOUNTS:
            self.assertIs(is_amount(one), True, one)
            self.assertIs(is_amount(list(one)), True, one)

    def test_no_amounts(self):
        for thing in NO_AMOUNTS + ODD:
            for call in (is_amount, is_weight):
                self.assertIs(call(thing), False)
                if isinstance(thing, tuple):
                    self.assertIs(call(list(thing)), False)

    def test_every_small_pair(self):
        for above in range(-2, 40):
            for below in range(-2, 40):
                least = above >= 0 and below >= 1 and amount(Fraction(above, below)) == (above, below)
                self.assertIs(is_amount((above, below)), least, (above, below))
                self.assertIs(is_weight([above, below]), least and BELOW % below == 0, (above, below))

    def test_greatest_above(self):
        for thing in ((10 ** 12, 1), (10 ** 12 - 1, 1), (10 ** 12 - 1, 2), (999999999999, 16), (0, 1)):
            self.assertIs(is_weight(thing), True, thing)
        for thing in ((10 ** 12 + 1, 1), (10 ** 12 + 1, 2), (10 ** 12 + 1, 55440), (10 ** 40, 1), (1 << 9000, 1)):
            self.assertIs(is_amount(thing), True, thing)
            self.assertIs(is_weight(thing), False, thing)

    def test_belows(self):
        right = divisors(BELOW)
        for below in list(range(1, 60)) + right + [55439, 55441, 55440 * 2, 32, 27, 25, 49, 121, 13]:
            self.assertIs(is_weight((1, below)), below in right, below)
            self.assertIs(is_amount((1, below)), True, below)

    def test_great_numbers(self):
        self.assertIs(is_amount((2 ** 9000, 3 ** 5000)), True)
        self.assertIs(is_amount((2 ** 9000, 2 * 3 ** 5000)), False)
        self.assertIs(is_weight((3 ** 5000, 2)), False)


class Sums(Case):
    def test_by_hand(self):
        self.tells(plus((1, 2), (1, 3)), (5, 6))
        self.tells(plus((1, 6), (1, 3)), (1, 2))
        self.tells(plus((0, 1), (0, 1)), (0, 1))
        self.tells(plus([1, 2], [1, 2]), (1, 1))
        self.tells(less((1, 2), (1, 3)), (1, 6))
        self.tells(less([5, 6], (1, 3)), (1, 2))
        self.tells(less((7, 3), (7, 3)), (0, 1))
        self.tells(half((0, 1)), (0, 1))
        self.tells(half((1, 1)), (1, 2))
        self.tells(half([4, 3]), (2, 3))
        self.tells(half((3, 4)), (3, 8))
        self.tells(total(()), (0, 1))
        self.tells(total([]), (0, 1))
        self.tells(total([[1, 4]]), (1, 4))
        self.tells(total([(1, 2), [1, 3], (1, 6)]), (1, 1))

    def test_beyond_weights(self):
        self.tells(plus((10 ** 12, 1), (10 ** 12, 1)), (2 * 10 ** 12, 1))
        self.tells(plus((1, 55440), (1, 55441)), (110881, 55440 * 55441))
        self.tells(half((1, 55440)), (1, 110880))

    def test_against_fractions(self):
        for one in AMOUNTS:
            self.tells(half(one), amount(fraction(one) / 2))
            for other in AMOUNTS:
                self.tells(plus(one, list(other)), amount(fraction(one) + fraction(other)))
                self.tells(is_below(list(one), other), fraction(one) < fraction(other))
        self.tells(total(AMOUNTS), amount(sum(fraction(one) for one in AMOUNTS)))

    def test_less_is_refused_just_where_the_first_is_below(self):
        for one in AMOUNTS:
            for other in AMOUNTS:
                if fraction(one) < fraction(other):
                    self.refuses(NoWeight, less, one, list(other))
                else:
                    self.tells(less(one, other), amount(fraction(one) - fraction(other)))

    def test_is_below(self):
        self.assertIs(is_below((1, 3), (1, 2)), True)
        self.assertIs(is_below((1, 2), (1, 3)), False)
        self.assertIs(is_below((1, 2), [1, 2]), False)
        self.assertIs(is_below((0, 1), (1, 55440)), True)

    def test_nothing_handed_in_is_changed(self):
        rows = [[1, 2], [1, 3]]
        total(rows), plus(rows[0], rows[1]), less(rows[0], rows[1]), half(rows[0]), is_below(rows[0], rows[1])
        self.assertEqual(rows, [[1, 2], [1, 3]])

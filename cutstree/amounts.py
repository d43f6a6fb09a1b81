"""Amounts: rows (above, below) in least terms, and weights among them."""

from cutstree.errors import NoWeight
from cutstree.kinds import is_row_of, is_whole

MOST_ABOVE = 1000000000000
BELOW = 55440


def is_amount(thing):
    return has_amount_numbers(thing) and common(thing[0], thing[1]) == 1


def is_weight(thing):
    return is_in_parts(thing) and thing[0] <= MOST_ABOVE


def is_in_parts(thing):
    """Whether it is an amount of whole 55,440ths, however great."""
    # The small below is asked for first: the greatest common divisor is quick then.
    return has_amount_numbers(thing) and BELOW % thing[1] == 0 and common(thing[0], thing[1]) == 1


def has_amount_numbers(thing):
    if not is_row_of(thing, 2) or not is_whole(thing[0]) or not is_whole(thing[1]):
        return False
    return thing[0] >= 0 and thing[1] >= 1


def common(one, other):
    """The greatest number that divides both."""
    while other:
        one, other = other, one % other
    return one


def in_least_terms(above, below):
    divisor = common(above, below)
    return (above // divisor, below // divisor)


def plus(one, other):
    return in_least_terms(one[0] * other[1] + other[0] * one[1], one[1] * other[1])


def less(one, other):
    if is_below(one, other):
        raise NoWeight()
    return in_least_terms(one[0] * other[1] - other[0] * one[1], one[1] * other[1])


def half(one):
    return in_least_terms(one[0], 2 * one[1])


def total(amounts):
    found = (0, 1)
    for amount in amounts:
        found = plus(found, amount)
    return found


def is_below(one, other):
    return one[0] * other[1] < other[0] * one[1]


def parts(amount):
    """How many 55,440ths an amount is whose below divides 55,440."""
    return amount[0] * (BELOW // amount[1])


def from_parts(many):
    return in_least_terms(many, BELOW)

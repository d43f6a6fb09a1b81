"""Words of texts: the lines that say something, numbers, amounts."""

from cutstree.amounts import is_amount

DIGITS = "0123456789"
MOST_PLACE_DIGITS = 2
MOST_AMOUNT_DIGITS = 30


def said_lines(text):
    """Rows (number of a line, its words) of the lines that say something."""
    # By blanks and line feeds alone: other signs that Python takes for blanks are no part of such a text.
    lines = [[word for word in line.split(" ") if word] for line in text.split("\n")]
    return [(at, words) for at, words in enumerate(lines) if words]


def place_of(word):
    return number_of(word, MOST_PLACE_DIGITS)


def number_of(word, most_digits):
    """The number that a word tells by so many digits at most, None if it tells none."""
    if not 0 < len(word) <= most_digits or not all([sign in DIGITS for sign in word]):
        return None
    return int(word) if word == "0" or word[0] != "0" else None


def amount_of(word):
    """The amount that a word tells, None if it tells none."""
    above, slash, below = word.partition("/")
    if slash and below == "1":
        return None
    amount = (number_of(above, MOST_AMOUNT_DIGITS), number_of(below, MOST_AMOUNT_DIGITS) if slash else 1)
    return amount if is_amount(amount) else None


def amount_text(amount):
    above, below = amount
    return str(above) if below == 1 else f"{above}/{below}"

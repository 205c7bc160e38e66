"""Flags for the plain kinds of things: numbers, lots, signs. Each judges any object."""

LETTERS = "abcdefghijklmnopqrstuvwxyz"
FIGURES = "0123456789"
MOST_LETTERS = 8
MOST_FIGURES = 9
MOST_PLACES = 2
MOST_SIGNS = 12


def is_integer(thing):
    """Whether a thing is an integer; a flag is none."""
    return isinstance(thing, int) and not isinstance(thing, bool)


def is_number_below(thing, limit):
    """Whether a thing is an integer from 0 on that is below a limit."""
    return is_integer(thing) and 0 <= thing < limit


def is_tuple_of(thing, many):
    """Whether a thing is a tuple of so many things."""
    return isinstance(thing, tuple) and len(thing) == many


def are_numbers_below(things, limit):
    """Whether all of some things are integers from 0 on that are below a limit."""
    return all([is_number_below(thing, limit) for thing in things])


def is_lot(thing, limit):
    """Whether a thing is a lot of numbers below a limit."""
    if not isinstance(thing, tuple) or not are_numbers_below(thing, limit):
        return False
    return all([thing[k] < thing[k + 1] for k in range(len(thing) - 1)])


def is_sign(thing):
    """Whether a thing is a sign."""
    if not isinstance(thing, str) or not 1 <= len(thing) <= MOST_LETTERS:
        return False
    return all([letter in LETTERS for letter in thing])


def is_placed_sign(thing):
    """Whether a thing is a pair of a sign and how many places it has."""
    return is_tuple_of(thing, 2) and is_sign(thing[0]) and is_number_below(thing[1], MOST_PLACES + 1)


def are_signs(thing):
    """Whether a thing is a tuple of signs and their places as a lore has them."""
    if not isinstance(thing, tuple) or not 1 <= len(thing) <= MOST_SIGNS:
        return False
    if not all([is_placed_sign(pair) for pair in thing]):
        return False
    if not all([thing[k][0] < thing[k + 1][0] for k in range(len(thing) - 1)]):
        return False
    return any([places == 0 for _, places in thing])


def is_number_text(text):
    """Whether a text is a number of 1 to 9 figures without needless zeros."""
    if not 1 <= len(text) <= MOST_FIGURES or not all([letter in FIGURES for letter in text]):
        return False
    return len(text) == 1 or text[0] != "0"

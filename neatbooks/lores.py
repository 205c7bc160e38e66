"""Lores, their terms and their told terms."""

from neatbooks.errors import BadLore, NoTerm
from neatbooks.shapes import are_signs, is_tuple_of
from neatbooks.trees import Bank, ascending, fits, nodes, words

MOST_LINES = 24
MOST_TOLD = 60
LEAST_SIGNS = (("a", 0),)


class Lore:
    """Signs with their places, and lines that tell terms of them equal."""

    def __init__(self, signs, lines):
        if not are_signs(signs):
            raise BadLore("signs")
        if not isinstance(lines, tuple) or len(lines) > MOST_LINES:
            raise BadLore("lines")
        places = dict(signs)
        for number, line in enumerate(lines):
            if not fits_line(places, line):
                raise BadLore(number)
        if len(told_in(lines)) > MOST_TOLD:
            raise BadLore("terms")
        self.signs = signs
        self.lines = lines

    def __eq__(self, other):
        # The lines are compared flat: Python itself compares tuples by recursion.
        return isinstance(other, Lore) and self.signs == other.signs and flat(self.lines) == flat(other.lines)


def flat(lines):
    """The words of both sides of each line."""
    return [(words(one), words(other)) for one, other in lines]


def fits_line(places, thing):
    """Whether a thing is a line of the signs that are the keys of places."""
    return is_tuple_of(thing, 2) and fits(places, thing[0]) and fits(places, thing[1])


def bank_of_told(lines):
    """The bank of the unlike terms within the sides of some lines."""
    bank = Bank()
    bank.take_lines(lines)
    return bank


def told_in(lines):
    """The list of the unlike terms within the sides of some lines."""
    return bank_of_told(lines).terms


def unbounded(signs, lines):
    """A lore of right signs and lines, however many: the sizes bind only those who call Lore."""
    lore = Lore(LEAST_SIGNS, ())
    lore.signs = signs
    lore.lines = lines
    return lore


def is_term(lore, thing):
    """Whether a thing is a term of a lore's signs."""
    return fits(dict(lore.signs), thing)


def is_line(lore, thing):
    """Whether a thing is a line of a lore's signs."""
    return fits_line(dict(lore.signs), thing)


def need_term(lore, thing):
    """Raises NoTerm for what is no term of a lore's signs."""
    if not is_term(lore, thing):
        raise NoTerm()


def size(lore, term):
    """How many signs stand in a term."""
    need_term(lore, term)
    return len(nodes(term))


def told_terms(lore):
    """The ascending tuple of the terms within the sides of a lore's lines."""
    bank = bank_of_told(lore.lines)
    return tuple([bank.terms[number] for number in ascending(bank)])

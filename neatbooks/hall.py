"""The classes of a lore, what is equal by it, and its worth."""

from neatbooks.closure import Hall, Spots
from neatbooks.lores import need_term, unbounded
from neatbooks.trees import from_within


def classes(lore):
    """The tuple, for each class, of the ascending tuple of its told terms."""
    return Hall(lore).classes


def ways(lore):
    """The tuple, for each class, of the ascending tuple of its ways."""
    return Hall(lore).ways


def class_of(lore, term):
    """The number of the class whose terms a term is equal to, or None."""
    need_term(lore, term)
    table = Hall(lore).table
    return from_within(term, lambda sign, parts: table.get((sign, parts)))


def equal(lore, term, other_term):
    """Whether two terms are equal."""
    need_term(lore, term)
    need_term(lore, other_term)
    return Spots(Hall(lore).table).are_one(term, other_term)


def worth(lore):
    """How many more ways than classes there are."""
    return Hall(lore).worth()


def losses(lore):
    """The tuple, for each line, of 1 less what the worth rises by it."""
    worths = [worth(unbounded(lore.signs, lore.lines[:end])) for end in range(len(lore.lines) + 1)]
    return tuple([1 - (worths[k + 1] - worths[k]) for k in range(len(lore.lines))])

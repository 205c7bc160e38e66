"""Worlds: things and tables that tell what each sign makes of them."""

from neatbooks.closure import Hall
from neatbooks.errors import NoWorld
from neatbooks.lores import need_term
from neatbooks.shapes import are_numbers_below, is_integer, is_number_below, is_tuple_of
from neatbooks.trees import from_within


def is_table(many, places, thing):
    """Whether a thing is a dict from all tuples of so many things as there are places to a thing."""
    if not isinstance(thing, dict):
        return False
    rows = 1
    for _ in range(places):
        rows = rows * many
    if len(thing) != rows:
        return False
    for parts, made in thing.items():
        if not is_tuple_of(parts, places) or not are_numbers_below(parts, many) or not is_number_below(made, many):
            return False
    return True


def is_world(lore, thing):
    """Whether a thing is a world for a lore."""
    if not is_tuple_of(thing, 2) or not is_integer(thing[0]) or thing[0] < 1:
        return False
    many, tables = thing
    if not isinstance(tables, dict) or len(tables) != len(lore.signs):
        return False
    return all([sign in tables and is_table(many, places, tables[sign]) for sign, places in lore.signs])


def need_world(lore, thing):
    """Raises NoWorld for what is no world for a lore."""
    if not is_world(lore, thing):
        raise NoWorld()


def value_of(tables, term):
    """The thing of a term by the tables of a world."""
    return from_within(term, lambda sign, parts: tables[sign][parts])


def value(lore, world, term):
    """The thing of a term."""
    need_world(lore, world)
    need_term(lore, term)
    return value_of(world[1], term)


def broken_in(lore, tables):
    """The number of the first line whose sides have unlike values by the tables of a world, or None."""
    for number, (one, other) in enumerate(lore.lines):
        if value_of(tables, one) != value_of(tables, other):
            return number
    return None


def keeps(lore, world):
    """Whether both sides of each line have one value."""
    need_world(lore, world)
    return broken_in(lore, world[1]) is None


def first_broken(lore, world):
    """The number of the first line whose sides have unlike values, or None."""
    need_world(lore, world)
    return broken_in(lore, world[1])


def tuples_of(many, places):
    """All tuples of so many numbers below many as there are places, ascending."""
    rows = [()]
    for _ in range(places):
        rows = [row + (number,) for row in rows for number in range(many)]
    return rows


def world(lore):
    """A world that keeps the lore: a thing for each class, and one for all other terms."""
    hall = Hall(lore)
    rest = len(hall.classes)
    tables = {}
    for sign, places in lore.signs:
        tables[sign] = {row: hall.table.get((sign, row), rest) for row in tuples_of(rest + 1, places)}
    return (rest + 1, tables)


def is_parting(lore, term, other_term, thing):
    """Whether a thing is a world that keeps the lore and in which two terms have unlike values."""
    need_term(lore, term)
    need_term(lore, other_term)
    if not is_world(lore, thing) or broken_in(lore, thing[1]) is not None:
        return False
    return value_of(thing[1], term) != value_of(thing[1], other_term)

"""Lores made of lores. The sizes of what is made are not bounded."""

from neatbooks.errors import NoLine, NoLot, NoNames, OtherSigns
from neatbooks.lores import is_line, unbounded
from neatbooks.shapes import is_lot, is_sign
from neatbooks.trees import from_within


def with_line(lore, line):
    """The lore with one line more, behind the others."""
    if not is_line(lore, line):
        raise NoLine()
    return unbounded(lore.signs, lore.lines + (line,))


def without(lore, lot):
    """The lore without the lines with the numbers of a lot."""
    if not is_lot(lot, len(lore.lines)):
        raise NoLot()
    kept = [line for number, line in enumerate(lore.lines) if number not in lot]
    return unbounded(lore.signs, tuple(kept))


def are_names(lore, thing):
    """Whether a thing is a dict from all signs of a lore to unlike signs."""
    if not isinstance(thing, dict) or len(thing) != len(lore.signs):
        return False
    places = dict(lore.signs)
    for sign, name in thing.items():
        if not isinstance(sign, str) or sign not in places or not is_sign(name):
            return False
    return len(set(list(thing.values()))) == len(thing)


def renamed_term(names, term):
    """A term with other names for its signs."""
    return from_within(term, lambda sign, parts: (names[sign],) + parts)


def renamed(lore, names):
    """The lore with other names for its signs."""
    if not are_names(lore, names):
        raise NoNames()
    signs = sorted([(names[sign], places) for sign, places in lore.signs])
    lines = [(renamed_term(names, one), renamed_term(names, other)) for one, other in lore.lines]
    return unbounded(tuple(signs), tuple(lines))


def joined(one, other):
    """The lore of the signs of both, with the lines of the one, then those of the other."""
    places = dict(one.signs)
    for sign, many in other.signs:
        if places.setdefault(sign, many) != many:
            raise OtherSigns()
    return unbounded(tuple(sorted(places.items())), one.lines + other.lines)

"""What a lore tells about some of its signs alone."""

from neatbooks.closure import Hall
from neatbooks.errors import NoLot
from neatbooks.gathering import Gathering
from neatbooks.lores import unbounded
from neatbooks.making import Least
from neatbooks.shapes import is_lot


def has_start(signs):
    """Whether some sign has no places: without such a one there are no terms."""
    return any([places == 0 for _, places in signs])


def about_signs(lore, signs):
    """A lore of some of a lore's signs, by which their terms are equal that are so by the lore.

    A term of these signs that is equal to a told one is made of such terms, each of which is
    equal to a told one, too: so the ways of these signs tell all of it.
    """
    places = dict(signs)
    rows = [(made, 1, parts, sign) for (sign, parts), made in Hall(lore).table.items() if sign in places]
    gathering = Gathering()
    for ways in Least(rows).sized_ways():
        gathering.gather(ways)
    return unbounded(signs, tuple(gathering.lines))


def about(lore, lot):
    """A lore of the signs with the numbers of a lot, by which their terms are equal that are so by the lore."""
    if not is_lot(lot, len(lore.signs)):
        raise NoLot()
    signs = tuple([lore.signs[number] for number in lot])
    if not has_start(signs):
        raise NoLot()
    return about_signs(lore, signs)

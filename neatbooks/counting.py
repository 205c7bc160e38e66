"""How many picks there are, and their numbers."""

from neatbooks.closure import Hall
from neatbooks.errors import NoNumber, TooMany
from neatbooks.making import option_masks
from neatbooks.picks import all_made, all_options, need_pick
from neatbooks.shapes import is_number_below

MOST_CHOOSING = 11


def count_of(masks, ahead):
    """How many of some masks need nothing but what is ahead."""
    return len([mask for mask in masks if mask & ahead == mask])


def add_unneeded(counts, rows, ahead):
    """Adds what a set of classes brings to the greater sets, the classes that come being needed by none of these."""
    here = [count_of(masks, ahead) for masks in rows]
    others = len(counts) - 1 - ahead
    products = {0: -counts[ahead]}
    come = others & -others
    while come > 0:
        low = come & -come
        products[come] = -products[come - low] * here[low.bit_length() - 1]
        counts[ahead + come] += products[come]
        come = (come - others) & others


def count_fitting(options):
    """How many choices of an option for each class do not go round.

    Set by set of classes: where just these are chosen, some of them are needed by none, and
    the others do not go round. As it may be told of more than one set that it is needed by
    none, the sets are added and taken away by turns, by how many classes they have.
    """
    rows = option_masks(options)
    if rows is None:
        return 0
    counts = [0] * (1 << len(rows))
    counts[0] = 1
    for ahead in range(1 << len(rows)):
        add_unneeded(counts, rows, ahead)
    return counts[-1]


def need_few_choosing(ways):
    """Raises TooMany if too many classes have two ways or more."""
    if len([row for row in ways if len(row) > 1]) > MOST_CHOOSING:
        raise TooMany(MOST_CHOOSING)


def count_picks(lore):
    """How many picks there are."""
    ways = Hall(lore).ways
    need_few_choosing(ways)
    return count_fitting(all_options(ways))


def pick_at(lore, number):
    """The pick with a number."""
    ways = Hall(lore).ways
    need_few_choosing(ways)
    options = all_options(ways)
    if not is_number_below(number, count_fitting(options)):
        raise NoNumber()
    pick = []
    for at, row in enumerate(all_options(ways)):
        way = 0
        options[at] = [row[way]]
        many = count_fitting(options) if len(row) > 1 else number + 1
        while number >= many:
            number = number - many
            way = way + 1
            options[at] = [row[way]]
            many = count_fitting(options)
        pick.append(way)
    return tuple(pick)


def pick_number(lore, pick):
    """The number of a pick."""
    ways = Hall(lore).ways
    need_pick(ways, pick)
    need_few_choosing(ways)
    options = all_options(ways)
    number = 0
    for at, row in enumerate(all_options(ways)):
        for parts in row[:pick[at]]:
            options[at] = [parts]
            number += count_fitting(options)
        options[at] = [row[pick[at]]]
    return number


def all_picks(ways):
    """The list of all picks, ascending: each beginning of one is kept as long as what is left can be made."""
    found = [()]
    for row in ways:
        longer = [pick + (way,) for pick in found for way in range(len(row))]
        found = [pick for pick in longer if len(row) == 1 or can_go_on(ways, pick)]
    return found


def can_go_on(ways, beginning):
    """Whether some pick begins with some chosen ways."""
    options = all_options(ways)
    for number, way in enumerate(beginning):
        options[number] = [options[number][way]]
    return all_made(options)

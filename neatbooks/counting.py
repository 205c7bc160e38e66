"""How many picks there are, and their numbers."""

from neatbooks.closure import Hall
from neatbooks.errors import NoNumber, TooMany
from neatbooks.knots import count_fitting
from neatbooks.picks import all_options, can_complete, need_pick
from neatbooks.shapes import is_number_below

MOST_CHOOSING = 11


def need_few_choosing(ways):
    """Raises TooMany if too many classes have two ways or more."""
    if len([row for row in ways if len(row) > 1]) > MOST_CHOOSING:
        raise TooMany(MOST_CHOOSING)


def count_picks(lore):
    """How many picks there are."""
    ways = Hall(lore).ways
    need_few_choosing(ways)
    return count_fitting(all_options(ways))


def pick_at(lore, number):
    """The pick with a number."""
    ways = Hall(lore).ways
    need_few_choosing(ways)
    options = all_options(ways)
    if not is_number_below(number, count_fitting(options)):
        raise NoNumber()
    pick = []
    for at, row in enumerate(all_options(ways)):
        way = 0
        options[at] = [row[way]]
        many = count_fitting(options) if len(row) > 1 else number + 1
        while number >= many:
            number = number - many
            way = way + 1
            options[at] = [row[way]]
            many = count_fitting(options)
        pick.append(way)
    return tuple(pick)


def pick_number(lore, pick):
    """The number of a pick."""
    ways = Hall(lore).ways
    need_pick(ways, pick)
    need_few_choosing(ways)
    options = all_options(ways)
    number = 0
    for at, row in enumerate(all_options(ways)):
        for parts in row[:pick[at]]:
            options[at] = [parts]
            number += count_fitting(options)
        options[at] = [row[pick[at]]]
    return number


def all_picks(ways):
    """The list of all picks, ascending: each beginning of one is kept as long as what is left can be made."""
    found = [()]
    for row in ways:
        longer = [pick + (way,) for pick in found for way in range(len(row))]
        found = [pick for pick in longer if len(row) == 1 or can_complete(ways, dict(enumerate(pick)))]
    return found

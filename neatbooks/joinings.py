"""Joinings: which classes may be joined so that what is made alike stays alike."""

from itertools import combinations

from neatbooks.closure import Hall
from neatbooks.errors import NoJoining, NoNumber, TooMany
from neatbooks.shapes import is_number_below, is_tuple_of

MOST_CLASSES = 9


def how_many_numbers(pattern):
    """How many unlike numbers there are in a pattern."""
    return max(pattern, default=-1) + 1


def is_pattern(thing, many):
    """Whether a thing is a tuple of so many numbers, each at most one more than the greatest ahead of it."""
    if not is_tuple_of(thing, many):
        return False
    limit = 1
    for number in thing:
        if not is_number_below(number, limit):
            return False
        limit = max(limit, number + 2)
    return True


def binding(hall):
    """For each sign with two ways or more the list of the triples (first part, last part, class) of its ways.

    No other way can come to be one with another. First and last stand for all parts, as no sign
    has more than two places.
    """
    rows = {}
    for (sign, parts), made in hall.table.items():
        if len(parts) > 0:
            rows.setdefault(sign, []).append((parts[0], parts[-1], made))
    return [row for row in list(rows.values()) if len(row) > 1]


def all_joinings(hall):
    """The list of all joinings, ascending: each beginning is kept as long as no two ways that are one part it."""
    pairs = [pair for row in binding(hall) for pair in combinations(row, 2)]
    found = [()]
    for number in range(len(hall.classes)):
        found = [pattern + (k,) for pattern in found for k in range(how_many_numbers(pattern) + 1)]
        for (a, b, made), (c, d, other) in pairs:
            if number == max(a, b, made, c, d, other):
                found = [p for p in found if p[made] == p[other] or p[a] != p[c] or p[b] != p[d]]
    return found


def small_hall(lore):
    """The hall of a lore: raises TooMany for too many classes."""
    hall = Hall(lore)
    if len(hall.classes) > MOST_CLASSES:
        raise TooMany(MOST_CLASSES)
    return hall


def count_joinings(lore):
    """How many joinings there are."""
    return len(all_joinings(small_hall(lore)))


def joining_at(lore, number):
    """The joining with a number."""
    found = all_joinings(small_hall(lore))
    if not is_number_below(number, len(found)):
        raise NoNumber()
    return found[number]


def joined_ways(hall, pattern):
    """A dict from joined ways to joined classes, None if some way is of two of these."""
    found = {}
    for (sign, parts), made in hall.table.items():
        way = (sign, tuple([pattern[part] for part in parts]))
        if found.setdefault(way, pattern[made]) != pattern[made]:
            return None
    return found


def ways_of_joining(hall, thing):
    """The dict from joined ways to joined classes, None for what is no joining."""
    if not is_pattern(thing, len(hall.classes)):
        return None
    return joined_ways(hall, thing)


def is_joining(lore, thing):
    """Whether a thing is a joining."""
    return ways_of_joining(Hall(lore), thing) is not None


def excess(lore, joining):
    """How many more joined ways than joined classes there are."""
    found = ways_of_joining(Hall(lore), joining)
    if found is None:
        raise NoJoining()
    return len(found) - how_many_numbers(joining)

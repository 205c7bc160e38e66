"""Picks: choices of a way for each class that do not go round."""

from neatbooks.closure import Hall
from neatbooks.errors import NoChoice, NoPick, NoWishes
from neatbooks.shapes import is_number_below, is_tuple_of


def is_choice(ways, thing):
    """Whether a thing is a tuple with a number of one of its ways for each class."""
    if not is_tuple_of(thing, len(ways)):
        return False
    return all([is_number_below(number, len(row)) for number, row in zip(thing, ways)])


def need_choice(ways, thing):
    """Raises NoChoice for what is no choice."""
    if not is_choice(ways, thing):
        raise NoChoice()


def chosen_parts(ways, choice):
    """For each class the tuple of the classes in its chosen way."""
    return [row[number][1] for number, row in zip(choice, ways)]


def ring_at(parts, start):
    """A shortest ring with a class that starts it, None if it stands in none."""
    came = {}
    ahead = [start]
    while len(ahead) > 0 and start not in came:
        further = []
        for number in ahead:
            for part in parts[number]:
                if part not in came:
                    came[part] = number
                    further.append(part)
        ahead = further
    if start not in came:
        return None
    found = [start]
    while came[found[-1]] != start:
        found.append(came[found[-1]])
    return tuple(found)


def shortest_ring(parts):
    """A shortest ring of all, None if there is none."""
    rings = [ring_at(parts, start) for start in range(len(parts))]
    return min([found for found in rings if found is not None], key=len, default=None)


def is_pick_of(ways, thing):
    """Whether a thing is a choice of some ways that does not go round."""
    return is_choice(ways, thing) and all_made([[parts] for parts in chosen_parts(ways, thing)])


def need_pick(ways, thing):
    """Raises NoPick for what is no pick."""
    if not is_pick_of(ways, thing):
        raise NoPick()


def is_pick(lore, thing):
    """Whether a thing is a choice that does not go round."""
    return is_pick_of(Hall(lore).ways, thing)


def ring(lore, choice):
    """A shortest ring of a choice, None if it does not go round."""
    ways = Hall(lore).ways
    need_choice(ways, choice)
    return shortest_ring(chosen_parts(ways, choice))


def is_ring(lore, choice, thing):
    """Whether a thing is a ring of a choice."""
    ways = Hall(lore).ways
    need_choice(ways, choice)
    if not isinstance(thing, tuple) or len(thing) == 0:
        return False
    if not all([is_number_below(number, len(ways)) for number in thing]) or len(set(thing)) != len(thing):
        return False
    parts = chosen_parts(ways, choice)
    return all([thing[k - 1] in parts[thing[k]] for k in range(len(thing))])


def made_of(options):
    """For each class whether it can be made, options being the lists of the parts of the ways it may have."""
    made = [False] * len(options)
    found = True
    while found:
        found = False
        for number, rows in enumerate(options):
            if not made[number] and any([all([made[part] for part in parts]) for parts in rows]):
                made[number] = True
                found = True
    return made


def all_made(options):
    """Whether each class can be made."""
    return all(made_of(options))


def all_options(ways):
    """For each class the list of the parts of its ways."""
    return [[parts for _, parts in row] for row in ways]


def numbers_without(ways, number):
    """The lot of the numbers of a class's ways whose parts can be made without it."""
    options = all_options(ways)
    rows = options[number]
    options[number] = []
    made = made_of(options)
    return tuple([k for k, parts in enumerate(rows) if all([made[part] for part in parts])])


def can_pick(lore):
    """The tuple, for each class, of the lot of the numbers of those ways that some pick has."""
    ways = Hall(lore).ways
    return tuple([numbers_without(ways, number) for number in range(len(ways))])


def are_wishes(ways, thing):
    """Whether a thing is a dict from classes to numbers of their ways."""
    if not isinstance(thing, dict):
        return False
    for number, way in thing.items():
        if not is_number_below(number, len(ways)) or not is_number_below(way, len(ways[number])):
            return False
    return True


def options_with(ways, wishes):
    """For each class the list of the parts of its ways, or of the told one alone where it has one."""
    options = all_options(ways)
    for number, way in wishes.items():
        options[number] = [options[number][way]]
    return options


def can_complete(ways, wishes):
    """Whether some pick has told ways for some classes."""
    return all_made(options_with(ways, wishes))


def completed_ways(ways, wishes):
    """The least pick that has told ways for some classes, None if there is none."""
    options = options_with(ways, wishes)
    if not all_made(options):
        return None
    pick = []
    for number, row in enumerate(ways):
        way = wishes.get(number, 0)
        options[number] = [row[way][1]]
        while not all_made(options):
            way = way + 1
            options[number] = [row[way][1]]
        pick.append(way)
    return tuple(pick)


def completed(lore, wishes):
    """The least pick that has told ways for some classes, None if there is none."""
    ways = Hall(lore).ways
    if not are_wishes(ways, wishes):
        raise NoWishes()
    return completed_ways(ways, wishes)

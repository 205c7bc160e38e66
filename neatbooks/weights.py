"""Weights of terms, and the least ones with which a lore can be told."""

from neatbooks.closure import Hall
from neatbooks.errors import NoWeights
from neatbooks.making import least_costs
from neatbooks.shapes import is_integer


def are_weights(lore, thing):
    """Whether a thing is a dict from all signs of a lore to integers from 1 on."""
    if not isinstance(thing, dict) or len(thing) != len(lore.signs):
        return False
    return all([sign in thing and is_integer(thing[sign]) and thing[sign] >= 1 for sign, _ in lore.signs])


def need_weights(lore, thing):
    """Raises NoWeights for what are no weights for a lore."""
    if not are_weights(lore, thing):
        raise NoWeights()


def least_of_classes(hall, weights):
    """For each class the least weight of a term that is equal to its terms."""
    rows = [(number, weights[sign], parts, None) for (sign, parts), number in hall.table.items()]
    costs = least_costs(rows)
    return [costs[number][0] for number in range(len(hall.classes))]


def weight_of_way(weights, least, way):
    """The least weight of a term that is made in a way, least being that of the classes."""
    sign, parts = way
    return weights[sign] + sum([least[part] for part in parts])


def least_weights(lore, weights):
    """The tuple, for each class, of the least weight of a term that is equal to its terms."""
    need_weights(lore, weights)
    return tuple(least_of_classes(Hall(lore), weights))


def least_pick(lore, weights):
    """The least of the picks all of whose answers have the least weights.

    As each sign weighs something, what is made in such a way is heavier than its parts: no
    choice of such ways goes round.
    """
    need_weights(lore, weights)
    hall = Hall(lore)
    least = least_of_classes(hall, weights)
    pick = []
    for number, row in enumerate(hall.ways):
        found = [weight_of_way(weights, least, way) for way in row]
        pick.append(found.index(least[number]))
    return tuple(pick)


def least_weight(lore, weights):
    """The weight of the book of the least pick: all ways of a class but the picked one are left sides of its answer."""
    need_weights(lore, weights)
    hall = Hall(lore)
    least = least_of_classes(hall, weights)
    total = 0
    for number, row in enumerate(hall.ways):
        total += sum([weight_of_way(weights, least, way) for way in row]) + least[number] * (len(row) - 2)
    return total


def load_of(hall, signs):
    """The sum, over the classes with two ways or more and their ways, of the size of what is least made in them."""
    sizes = {sign: 1 for sign, _ in signs}
    least = least_of_classes(hall, sizes)
    return sum([weight_of_way(sizes, least, way) for row in hall.ways if len(row) > 1 for way in row])

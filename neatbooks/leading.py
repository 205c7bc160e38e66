"""From pick to pick, the way of one class being changed at a time."""

from neatbooks.books import need_small
from neatbooks.closure import Hall
from neatbooks.errors import TooMany
from neatbooks.making import Making, made_order, option_masks
from neatbooks.picks import chosen_parts, is_pick_of, need_pick
from neatbooks.trees import Bank

MOST_CHANGED = 12


def need_picks(lore, pick, other_pick):
    """The ways of a lore: raises NoPick if one of both is no pick."""
    ways = Hall(lore).ways
    need_pick(ways, pick)
    need_pick(ways, other_pick)
    return ways


def changes(lore, pick, other_pick):
    """Shortest changes from a pick to another one.

    Each class is changed behind those that it will be made of: so what has come to its new
    ways is made of nothing but such, and does not go round.
    """
    ways = need_picks(lore, pick, other_pick)
    found = [pick]
    for number in made_order(chosen_parts(ways, other_pick)):
        here = found[-1]
        if here[number] != other_pick[number]:
            found.append(here[:number] + (other_pick[number],) + here[number + 1:])
    return tuple(found)


def how_many_differ(pick, other_pick):
    """At how many classes two picks differ."""
    return len([number for number, way in enumerate(pick) if way != other_pick[number]])


def is_changes(lore, pick, other_pick, thing):
    """Whether a thing is changes, of any length, from a pick to another one."""
    ways = need_picks(lore, pick, other_pick)
    if not isinstance(thing, tuple) or len(thing) == 0:
        return False
    if not all([is_pick_of(ways, part) for part in thing]):
        return False
    if thing[0] != pick or thing[-1] != other_pick:
        return False
    return all([how_many_differ(thing[k], thing[k + 1]) == 1 for k in range(len(thing) - 1)])


def can_all_be_made(masks):
    """Whether some things can be made, one behind the other, masks telling which of them each one needs."""
    made = 0
    found = True
    while found:
        found = False
        for number, mask in enumerate(masks):
            if mask & made == mask and made >> number & 1 == 0:
                made = made | 1 << number
                found = True
    return made == (1 << len(masks)) - 1


def count_orders(rows):
    """In how many orders all of some classes can be changed, rows being their masks ahead and behind."""
    counts = [0] * (1 << len(rows))
    counts[0] = 1
    for changed in range(1, 1 << len(rows)):
        if can_all_be_made([row[changed >> number & 1] for number, row in enumerate(rows)]):
            lasts = [number for number in range(len(rows)) if changed >> number & 1 == 1]
            counts[changed] = sum([counts[changed - (1 << number)] for number in lasts])
    return counts[-1]


def count_changes(lore, pick, other_pick):
    """How many shortest changes there are from a pick to another one."""
    ways = need_picks(lore, pick, other_pick)
    if how_many_differ(pick, other_pick) > MOST_CHANGED:
        raise TooMany(MOST_CHANGED)
    options = []
    for number, row in enumerate(ways):
        chosen = [row[pick[number]][1]]
        if pick[number] != other_pick[number]:
            chosen.append(row[other_pick[number]][1])
        options.append(chosen)
    return count_orders(option_masks(options))


def rules_kept(lore, pick, other_pick):
    """How many rules are in the books of both picks."""
    ways = need_picks(lore, pick, other_pick)
    need_small(ways, pick)
    need_small(ways, other_pick)
    bank = Bank()
    ahead = {pair: True for pair in Making(bank, ways, pick).pairs}
    return len([pair for pair in Making(bank, ways, other_pick).pairs if pair in ahead])

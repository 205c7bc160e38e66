"""What two lores tell in common: a lore, or a ring that shows that no finite list tells it."""

from neatbooks.closure import Hall, Spots
from neatbooks.errors import NoEndless, NoNumber, TooMany
from neatbooks.gathering import Gathering, Spread
from neatbooks.lines import need_same_signs
from neatbooks.lores import unbounded
from neatbooks.meeting import HOLE, Meeting, Tie
from neatbooks.shapes import is_number_below, is_tuple_of
from neatbooks.trees import fits, from_within, words

MOST_CLASSES = 6
MOST_ROUNDS = 8
MOST_SIGNS_OF_SIDES = 300


def small_halls(one, other):
    """The pair of the halls of two lores: raises OtherSigns and TooMany."""
    need_same_signs(one, other)
    halls = (Hall(one), Hall(other))
    if len(halls[0].classes) > MOST_CLASSES or len(halls[1].classes) > MOST_CLASSES:
        raise TooMany(MOST_CLASSES)
    return halls


def ties_of(one, other):
    """The ties of two halls: first the one being free, then the other one."""
    return [Tie(one, other), Tie(other, one)]


def common(one, other):
    """A lore by which just those terms are equal that are so by both lores, None if there is none."""
    halls = small_halls(one, other)
    ties = ties_of(halls[0], halls[1])
    if any([tie.endless() is not None for tie in ties]):
        return None
    gathering = Gathering()
    for ways in Meeting(halls[0], halls[1]).sized_ways():
        gathering.gather(ways)
    for tie in ties:
        Spread(tie, one.signs, gathering).go()
    return unbounded(one.signs, tuple(gathering.lines))


def endless(one, other):
    """A tuple that shows that no finite list of lines tells what is equal by both lores, None if one does."""
    halls = small_halls(one, other)
    for which, tie in enumerate(ties_of(halls[0], halls[1])):
        found = tie.endless()
        if found is not None:
            return (which,) + found
    return None


def is_holed(places, thing):
    """Whether a thing is a term with the hole at one place, below some sign."""
    with_hole = {sign: many for sign, many in places.items()}
    with_hole[HOLE[0]] = 0
    if not fits(with_hole, thing) or thing[0] == HOLE[0]:
        return False
    return words(thing).count(HOLE[0]) == 1


def filled(holed, term):
    """A holed term with a term put into the hole."""
    return from_within(holed, lambda sign, parts: term if sign == HOLE[0] else (sign,) + parts)


def is_free(lore, parts):
    """Whether ends, rings and tops are pairwise equal, and the ring takes the end out of all classes."""
    hall = Hall(lore)
    spots = Spots(hall.table)
    end, other_end, ring, other_ring, top, other_top = parts
    for one, other in ((end, other_end), (ring, other_ring), (top, other_top)):
        if not spots.are_one(one, other):
            return False
    return spots.spot_of(filled(ring, end)) >= len(hall.classes)


def is_tied(lore, parts):
    """Whether the rings lead back to the ends, and the tops make them equal, but not like for like."""
    spots = Spots(Hall(lore).table)
    end, other_end, ring, other_ring, top, other_top = parts
    if not spots.are_one(filled(ring, end), end) or not spots.are_one(filled(other_ring, other_end), other_end):
        return False
    one = filled(top, end)
    other = filled(other_top, other_end)
    if one[0] != other[0] or not spots.are_one(one, other):
        return False
    return not all([spots.are_one(part, other_part) for part, other_part in zip(one[1:], other[1:])])


def are_endless(one, other, thing):
    """Whether a thing is endless for two lores of the same signs."""
    if not is_tuple_of(thing, 7) or not is_number_below(thing[0], 2):
        return False
    places = dict(one.signs)
    parts = thing[1:]
    if not fits(places, parts[0]) or not fits(places, parts[1]):
        return False
    if not all([is_holed(places, part) for part in parts[2:]]):
        return False
    free, tied = (one, other) if thing[0] == 0 else (other, one)
    return is_free(free, parts) and is_tied(tied, parts)


def is_endless(one, other, thing):
    """Whether a thing is endless for two lores."""
    need_same_signs(one, other)
    return are_endless(one, other, thing)


def side_of(end, ring, top, number):
    """What a top makes of an end around which a ring is put so many times: raises TooMany."""
    size = len(words(end)) + number * (len(words(ring)) - 1) + len(words(top)) - 1
    if size > MOST_SIGNS_OF_SIDES:
        raise TooMany(MOST_SIGNS_OF_SIDES)
    for _ in range(number):
        end = filled(ring, end)
    return filled(top, end)


def line_of(one, other, thing, number):
    """The line of what both tops make of their ends, the rings being put around these so many times ahead."""
    need_same_signs(one, other)
    if not are_endless(one, other, thing):
        raise NoEndless()
    if not is_number_below(number, MOST_ROUNDS + 1):
        raise NoNumber()
    _, end, other_end, ring, other_ring, top, other_top = thing
    return (side_of(end, ring, top, number), side_of(other_end, other_ring, other_top, number))

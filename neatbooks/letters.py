"""Letters that two holders send one another, till nothing new is told."""

from neatbooks.changing import joined
from neatbooks.errors import OtherSigns
from neatbooks.lines import alike, tells
from neatbooks.lores import Lore
from neatbooks.some import about_signs, has_start


def shared_signs(one, other):
    """The tuple of the signs that two lores share: raises OtherSigns if they do not go together."""
    places = dict(one.signs)
    shared = tuple([pair for pair in other.signs if pair[0] in places])
    if any([places[sign] != many for sign, many in shared]) or not has_start(shared):
        raise OtherSigns()
    return shared


def reply(holder, letter, shared):
    """What a holder who got a letter tells of the shared signs."""
    return about_signs(joined(holder, letter), shared)


def letters(one, other):
    """The list of all letters, the last one being the first that is alike to the one ahead of it.

    Each letter tells what the one ahead of it does, as its sender has got this one: so the
    last letter that a holder got stands for all of them.
    """
    shared = shared_signs(one, other)
    found = [about_signs(one, shared)]
    found.append(reply(other, found[0], shared))
    while not tells(found[-2], found[-1]):
        holder = one if len(found) % 2 == 0 else other
        found.append(reply(holder, found[-1], shared))
    return found


def is_letter(letter, thing):
    """Whether a thing is a lore of the same signs as a letter, and alike."""
    return isinstance(thing, Lore) and thing.signs == letter.signs and alike(thing, letter)


def is_letters(one, other, thing):
    """Whether a thing is the list of all letters."""
    found = letters(one, other)
    if not isinstance(thing, list) or len(thing) != len(found):
        return False
    return all([is_letter(letter, part) for letter, part in zip(found, thing)])

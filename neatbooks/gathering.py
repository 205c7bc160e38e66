"""Gathers the lines of what two lores tell in common, class by class."""

from neatbooks.errors import TooMany
from neatbooks.meeting import each_of
from neatbooks.trees import order_key

MOST_LOAD = 2000


def class_lines(ways):
    """The list of the lines that make one class of what is made in some ways, each a pair (size, term)."""
    terms = sorted([term for _, term in ways], key=order_key)
    return [(terms[0], term) for term in terms[1:]]


class Gathering:
    """The lines that make classes of what is least made in their ways, and the load of these."""

    def __init__(self):
        self.lines = []
        self.weight = 0

    def gather(self, ways):
        """Adds a class by its ways, each a pair (size, term): one way alone asks for no line."""
        if len(ways) < 2:
            return
        self.weight += sum([size for size, _ in ways])
        if self.weight > MOST_LOAD:
            raise TooMany(MOST_LOAD)
        self.lines.extend(class_lines(ways))


class Spread:
    """Goes through the classes of terms that are equal to no told one by the free hall, as far as they matter.

    An item is a class of terms that are equal by the free hall: the pair of its number there,
    or None, and of a dict from the classes of the tied hall that it meets to pairs (size, term)
    of a least term of both. Its kind is the tuple of these classes: it alone tells whether what
    is made of an item matters, which it does if something of it comes to be equal by the tied
    hall of unlike parts. Where nothing is endless, there are not endlessly many such items, and
    each of them stands within some such terms: so they are no more than the load.
    """

    def __init__(self, tie, signs, gathering):
        self.tie = tie
        self.signs = signs
        self.gathering = gathering
        self.memory = {}
        self.groups = {}
        self.classes = []
        self.least = []
        for number in range(len(tie.free.classes)):
            self.classes.append(number)
            self.least.append(self.least_in(number))

    def least_in(self, number):
        """A dict from the classes of the tied hall that a class of the free one meets to pairs (size, term)."""
        costs = self.tie.meeting.costs
        least = self.tie.meeting.least
        return {pair[0]: (costs[pair][0], least[pair]) for pair in sorted(least) if pair[1] == number}

    def go(self):
        """Goes through all items, those that come up included."""
        for sign, places in self.signs:
            if places == 0:
                self.make(sign, ())
        at = 0
        while at < len(self.least):
            kind = tuple(sorted(self.least[at]))
            self.groups.setdefault(kind, []).append(at)
            for sign, places in self.signs:
                if places == 1 and self.matters(sign, (kind,)):
                    self.make(sign, (at,))
                if places == 2:
                    self.go_with_each(sign, at, kind)
            at += 1

    def go_with_each(self, sign, at, kind):
        """Makes what a sign with two places makes of an item and of each one that came no later."""
        for other_kind in list(self.groups):
            if self.matters(sign, (kind, other_kind)):
                for other in list(self.groups[other_kind]):
                    self.make(sign, (at, other))
            if self.matters(sign, (other_kind, kind)):
                for other in list(self.groups[other_kind]):
                    if other != at:
                        self.make(sign, (other, at))

    def matters(self, sign, kinds):
        """Whether what a sign makes of items of some kinds has two ways in one class, or is of use for such things."""
        if (sign, kinds) not in self.memory:
            table = self.tie.tied.table
            found = [table[(sign, row)] for row in each_of(kinds) if (sign, row) in table]
            self.memory[(sign, kinds)] = len(set(found)) < len(found) or self.tie.is_useful(found)
        return self.memory[(sign, kinds)]

    def ways_of(self, sign, numbers):
        """A dict from classes of the tied hall to pairs (size, term), one for each way in which a sign makes them."""
        found = {}
        for row in each_of([list(self.least[number]) for number in numbers]):
            if (sign, row) in self.tie.tied.table:
                parts = [self.least[number][part] for number, part in zip(numbers, row)]
                term = (sign,) + tuple([part for _, part in parts])
                size = 1 + sum([part_size for part_size, _ in parts])
                found.setdefault(self.tie.tied.table[(sign, row)], []).append((size, term))
        return found

    def make(self, sign, numbers):
        """Makes an item of others, unless it is in a class of the free hall: its classes are gathered."""
        if (sign, tuple([self.classes[number] for number in numbers])) in self.tie.free.table:
            return
        found = self.ways_of(sign, numbers)
        for ways in list(found.values()):
            self.gathering.gather(ways)
        if self.tie.is_useful(list(found)):
            if len(self.least) > MOST_LOAD + len(self.tie.free.classes):
                raise TooMany(MOST_LOAD)
            self.classes.append(None)
            self.least.append({number: min(ways, key=lambda way: way[0]) for number, ways in found.items()})

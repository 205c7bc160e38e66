"""Which lines are told by others, and what a lore has too many of."""

from itertools import combinations

from neatbooks.changing import with_line
from neatbooks.closure import Hall, Spots, united
from neatbooks.errors import OtherSigns, TooMany
from neatbooks.hall import worth
from neatbooks.lores import need_term, unbounded
from neatbooks.trees import Bank
from neatbooks.weights import load_of

MOST_LINES_TRIED = 12


def need_same_signs(one, other):
    """Raises OtherSigns unless two lores have the same signs."""
    if one.signs != other.signs:
        raise OtherSigns()


def first_untold(one, other):
    """The number of the first line of the other lore whose sides are not equal by the one, or None."""
    need_same_signs(one, other)
    spots = Spots(Hall(one).table)
    for number, (left, right) in enumerate(other.lines):
        if not spots.are_one(left, right):
            return number
    return None


def tells(one, other):
    """Whether all lines of the other lore are equal by the one."""
    return first_untold(one, other) is None


def alike(one, other):
    """Whether two lores tell one another."""
    return tells(one, other) and tells(other, one)


def is_told_by(lore, line, lines):
    """Whether a line is told by some lines of a lore's signs."""
    return tells(unbounded(lore.signs, lines), unbounded(lore.signs, (line,)))


def spare(lore):
    """The lot of the lines that are told by all others together."""
    lines = lore.lines
    return tuple([k for k, line in enumerate(lines) if is_told_by(lore, line, lines[:k] + lines[k + 1:])])


def thinned(lore):
    """The lore that is left if, again and again, the first line that is told by all others is taken out.

    What is not told by all others is not told by fewer: so no line is to be looked at again.
    """
    kept = ()
    for number, line in enumerate(lore.lines):
        if not is_told_by(lore, line, kept + lore.lines[number + 1:]):
            kept = kept + (line,)
    return unbounded(lore.signs, kept)


def load(lore):
    """The sum, over the classes with two ways or more and their ways, of the size of what is least made in them."""
    return load_of(Hall(lore), lore.signs)


def gain(lore, line):
    """What the worth changes by when a line is added."""
    return worth(with_line(lore, line)) - worth(lore)


def is_least(lore):
    """Whether no alike lore has fewer lines."""
    return len(lore.lines) == worth(lore)


class Trial:
    """Two terms that are tried with some of a lore's lines alone."""

    def __init__(self, lore, term, other_term):
        bank = Bank()
        self.lines = bank.take_lines(lore.lines)
        self.one = bank.take(term)
        self.other = bank.take(other_term)
        self.shapes = bank.shapes

    def are_equal_by(self, numbers):
        """Whether both are equal by the lines with some numbers."""
        merger = united(self.shapes, [self.lines[number] for number in numbers])
        return merger.home(self.one) == merger.home(self.other)

    def needed(self):
        """The numbers of the lines without which both are not equal."""
        every = list(range(len(self.lines)))
        return [number for number in every if not self.are_equal_by(every[:number] + every[number + 1:])]

    def least_lot(self):
        """The least of the lots of as few lines as can be by which both are equal, which they are by all.

        Lots with as many lines, all of which have some numbers in common, are in the order of
        what they have besides: each comes ahead of the other by the first number that it has alone.
        """
        needed = self.needed()
        others = [number for number in range(len(self.lines)) if number not in needed]
        for many in range(len(others) + 1):
            for row in combinations(others, many):
                if self.are_equal_by(needed + list(row)):
                    return tuple(sorted(needed + list(row)))
        return None


def shortest(lore, term, other_term):
    """The least of the lots of as few lines as can be by which alone two terms are equal, None if there is none."""
    need_term(lore, term)
    need_term(lore, other_term)
    if len(lore.lines) > MOST_LINES_TRIED:
        raise TooMany(MOST_LINES_TRIED)
    trial = Trial(lore, term, other_term)
    if not trial.are_equal_by(list(range(len(lore.lines)))):
        return None
    return trial.least_lot()

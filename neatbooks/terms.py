"""The terms of a class: how many there are of each size, and which."""

from neatbooks.closure import Hall
from neatbooks.errors import NoClass, NoNumber
from neatbooks.making import made_order
from neatbooks.shapes import is_integer, is_number_below

MOST_SIZE = 60


def need_class(hall, thing):
    """Raises NoClass for what is no number of a class."""
    if not is_number_below(thing, len(hall.classes)):
        raise NoClass()


def need_size(thing):
    """Raises NoNumber for what is no size that is gone up to."""
    if not is_integer(thing) or not 1 <= thing <= MOST_SIZE:
        raise NoNumber()


def count_pairs(row, other_row, total):
    """How many pairs of terms have so many signs together, the rows telling how many there are of each size."""
    return sum([row[size] * other_row[total - size] for size in range(1, total)])


def count_rows(hall, size):
    """For each class the list of how many of its terms have each size from 0 up to one."""
    rows = [[0] for _ in hall.classes]
    for total in range(size):
        news = [0] * len(rows)
        for (_, parts), made in hall.table.items():
            if len(parts) == 0:
                news[made] += 1 if total == 0 else 0
            elif len(parts) == 1:
                news[made] += rows[parts[0]][total]
            else:
                news[made] += count_pairs(rows[parts[0]], rows[parts[1]], total)
        for number, many in enumerate(news):
            rows[number].append(many)
    return rows


def count_terms(lore, number, size):
    """How many terms of a size are equal to the terms of a class."""
    hall = Hall(lore)
    need_class(hall, number)
    need_size(size)
    return count_rows(hall, size)[number][size]


class Seeker:
    """Seeks a term by its index among terms, sign by sign.

    A demand tells what may stand at a place: a dict from classes to dicts from sizes to how many
    ways there are to go on behind a term of this class and size. It is the same for each such
    term: so it is known how many terms begin with a sign, ahead of its parts.
    """

    def __init__(self, hall, rows):
        self.table = hall.table
        self.rows = rows
        self.ways = {}
        for (sign, parts), made in sorted(hall.table.items()):
            self.ways.setdefault(sign, []).append((parts, made))

    def places_of(self, sign):
        """How many places a sign has."""
        parts, _ = self.ways[sign][0]
        return len(parts)

    def asked(self, sign, demand, known, used):
        """The demand on the part behind known ones, of these classes and of a size together, of what a sign makes."""
        found = {}
        for parts, made in self.ways[sign]:
            if parts[:len(known)] == known:
                sizes = found.setdefault(parts[len(known)], {})
                for size, many in demand.get(made, {}).items():
                    for own, others in self.splits(parts[len(known) + 1:], size - 1 - used):
                        sizes[own] = sizes.get(own, 0) + many * others
        return found

    def splits(self, others, total):
        """The pairs of a size for a part, and of how many there are of what stands behind it, of a size together."""
        if len(others) == 0:
            return [(total, 1)] if total > 0 else []
        row = self.rows[others[0]]
        return [(own, row[total - own]) for own in range(1, total) if row[total - own] > 0]

    def how_many(self, sign, demand):
        """How many of the terms begin with a sign."""
        if self.places_of(sign) == 0:
            return demand.get(self.table[(sign, ())], {}).get(1, 0)
        asked = self.asked(sign, demand, (), 0)
        return sum([many * self.rows[part][size] for part in asked for size, many in asked[part].items()])

    def sign_at(self, demand, index):
        """The first sign of the term at an index, with the index of this term among those that begin with it."""
        for sign in self.ways:
            many = self.how_many(sign, demand)
            if index < many:
                break
            index -= many
        return (sign, index)

    def seek(self, demand, index):
        """The term at an index, its class and size, with what of the index is left for what stands behind it.

        This goes as deep as the term.
        """
        sign, index = self.sign_at(demand, index)
        made = []
        known = ()
        used = 0
        for _ in range(self.places_of(sign)):
            part, number, size, index = self.seek(self.asked(sign, demand, known, used), index)
            made.append(part)
            known = known + (number,)
            used += size
        return ((sign,) + tuple(made), self.table[(sign, known)], used + 1, index)


def term_at(lore, number, size, index):
    """The term with an index among those of a size that are equal to the terms of a class, ascending."""
    hall = Hall(lore)
    need_class(hall, number)
    need_size(size)
    rows = count_rows(hall, size)
    if not is_number_below(index, rows[number][size]):
        raise NoNumber()
    term, _, _, _ = Seeker(hall, rows).seek({number: {size: 1}}, index)
    return term


def has_endless(lore, number):
    """Whether endlessly many terms are equal to the terms of a class.

    They are if it stands, by whichever ways, among what it is made of, or is made of such a class.
    """
    hall = Hall(lore)
    need_class(hall, number)
    parts = [[part for _, numbers in row for part in numbers] for row in hall.ways]
    return number not in made_order(parts)

"""What share of the worlds with so many things keeps a lore, and how it falls as there are more things."""

from math import gcd

from neatbooks.changing import with_line
from neatbooks.errors import NoNumber
from neatbooks.gathering import class_lines
from neatbooks.joinings import all_joinings, binding, how_many_numbers, joined_ways, small_hall
from neatbooks.lores import need_term, unbounded
from neatbooks.making import Least
from neatbooks.shapes import is_integer


def reduced(top, bottom):
    """The fraction in lowest terms."""
    divisor = gcd(top, bottom)
    return (top // divisor, bottom // divisor)


def divided(one, other):
    """The fraction of one fraction by another one."""
    return reduced(one[0] * other[1], one[1] * other[0])


def sized(hall):
    """The list of the triples (joining, how many joined classes, how many joined ways), by joinings, ascending."""
    rows = binding(hall)
    others = len(hall.table) - sum([len(row) for row in rows])
    found = []
    for pattern in all_joinings(hall):
        many = sum([len({(pattern[first], pattern[last]) for first, last, _ in row}) for row in rows])
        found.append((pattern, how_many_numbers(pattern), many + others))
    return found


def counted(hall):
    """A dict from the pairs (joined classes, joined ways) to how many joinings have so many."""
    found = {}
    for _, j, e in sized(hall):
        found[(j, e)] = found.get((j, e), 0) + 1
    return found


def is_many(thing):
    """Whether a thing is a number of things for which a share is told."""
    return is_integer(thing) and 1 <= thing <= 10 ** 30


def share_of(hall, many):
    """The share of the worlds with so many things that keep the lore of a hall.

    A joining with j classes and e ways brings many (many - 1) .. (many - j + 1) / many ** e.
    """
    found = counted(hall)
    falling = [1]
    for number in range(len(hall.classes)):
        falling.append(falling[-1] * (many - number))
    powers = [1]
    for _ in range(len(hall.table)):
        powers.append(powers[-1] * many)
    top = sum([count * falling[j] * powers[len(hall.table) - e] for (j, e), count in found.items()])
    return reduced(top, powers[-1])


def share(lore, n):
    """The share of the worlds with n things that keep a lore."""
    if not is_many(n):
        raise NoNumber()
    return share_of(small_hall(lore), n)


def fall_and_level(hall):
    """The pair of the least excess of a joining, and of how many joinings have it."""
    found = counted(hall)
    least = min([e - j for j, e in found])
    return (least, sum([count for (j, e), count in found.items() if e - j == least]))


def fall(lore):
    """The least excess of a joining."""
    return fall_and_level(small_hall(lore))[0]


def level(lore):
    """How many joinings have the least excess."""
    return fall_and_level(small_hall(lore))[1]


def told_by(lore):
    """A lore with as few lines as can be by which all lines of a lore are equal.

    Its classes are the joined ones of a joining with the least excess: each is told by one line
    less than it has joined ways.
    """
    hall = small_hall(lore)
    pattern, _, _ = min(sized(hall), key=lambda row: row[2] - row[1])
    rows = [(made, 1, parts, sign) for (sign, parts), made in joined_ways(hall, pattern).items()]
    ways = Least(rows).sized_ways()
    return unbounded(lore.signs, tuple([line for row in ways for line in class_lines(row)]))


def need_terms(lore, term, other_term):
    """Raises NoTerm if one of both is no term."""
    need_term(lore, term)
    need_term(lore, other_term)


def share_equal(lore, term, other_term, n):
    """The share, among the worlds with n things that keep a lore, of those in which two terms have one value."""
    need_terms(lore, term, other_term)
    if not is_many(n):
        raise NoNumber()
    hall = small_hall(lore)
    joined_hall = small_hall(with_line(lore, (term, other_term)))
    return divided(share_of(joined_hall, n), share_of(hall, n))


def long_run(lore, term, other_term):
    """What the share of the worlds in which two terms have one value comes nearer to as there are more things."""
    need_terms(lore, term, other_term)
    hall = small_hall(lore)
    joined_hall = small_hall(with_line(lore, (term, other_term)))
    least, many = fall_and_level(hall)
    joined_least, joined_many = fall_and_level(joined_hall)
    if joined_least > least:
        return (0, 1)
    return reduced(joined_many, many)

"""Neat books: what is at fault with a book, and the books of picks."""

from neatbooks.closure import Hall, Spots
from neatbooks.errors import NoBook, TooMany
from neatbooks.lores import fits_line
from neatbooks.making import making, total_size
from neatbooks.picks import need_pick
from neatbooks.trees import order_key
from neatbooks.working import Work

MOST_SIGNS_OF_ANSWERS = 2000


def is_book(lore, thing):
    """Whether a thing is a tuple of rules, neat or not."""
    places = dict(lore.signs)
    return isinstance(thing, tuple) and all([fits_line(places, rule) for rule in thing])


def first_lie(lore, rules):
    """The number of the first rule whose sides are not equal, or None."""
    spots = Spots(Hall(lore).table)
    for number, (left, right) in enumerate(rules):
        if not spots.are_one(left, right):
            return number
    return None


def first_twice(work):
    """The number of the first rule whose left side stands ahead, or None."""
    for number, (left, _) in enumerate(work.pairs):
        if work.rule_numbers[left] != number:
            return number
    return None


def first_worked(work):
    """The number of the first rule that is worked on as it may not be, or None."""
    for number, (left, right) in enumerate(work.pairs):
        if work.wrongly_worked(left, right):
            return number
    return None


def first_missed(lore, work):
    """The number of the first line whose sides have unlike answers, or None."""
    for number, (one, other) in enumerate(lore.lines):
        if work.answer_number(one) != work.answer_number(other):
            return number
    return None


def fault_of(lore, rules, work):
    """The first fault of what is a book, None if it is neat."""
    number = first_lie(lore, rules)
    if number is not None:
        return ("lies", number)
    number = first_twice(work)
    if number is not None:
        return ("twice", number)
    number = first_worked(work)
    if number is not None:
        return ("worked", number)
    number = first_missed(lore, work)
    if number is not None:
        return ("misses", number)
    return None


def fault(lore, thing):
    """The first fault of a thing, None for a neat book."""
    if not is_book(lore, thing):
        return ("form",)
    return fault_of(lore, thing, Work(thing))


def is_neat(lore, thing):
    """Whether a thing is a neat book."""
    return fault(lore, thing) is None


def need_work(lore, book):
    """The work of a neat book: raises NoBook for what is none."""
    if not is_book(lore, book):
        raise NoBook()
    work = Work(book)
    if fault_of(lore, book, work) is not None:
        raise NoBook()
    return work


def need_small(ways, pick):
    """Raises TooMany if the answers of a pick have too many signs together."""
    if total_size(ways, pick) > MOST_SIGNS_OF_ANSWERS:
        raise TooMany(MOST_SIGNS_OF_ANSWERS)


def small_making(lore, pick):
    """The making of a pick with small answers: raises NoPick and TooMany for others."""
    ways = Hall(lore).ways
    need_pick(ways, pick)
    need_small(ways, pick)
    return making(ways, pick)


def answers(lore, pick):
    """The tuple of the answers of the classes."""
    made = small_making(lore, pick)
    return tuple([made.bank.terms[number] for number in made.numbers])


def rules_of(made):
    """The tuple of the rules of a making, by left sides, ascending."""
    terms = made.bank.terms
    rules = [(terms[left], terms[right]) for left, right in made.pairs]
    return tuple(sorted(rules, key=lambda rule: order_key(rule[0])))


def book(lore, pick):
    """The tuple of the rules of a pick, by left sides, ascending."""
    return rules_of(small_making(lore, pick))


def pick_of(lore, book):
    """The pick of which a neat book is the book."""
    work = need_work(lore, book)
    hall = Hall(lore)
    spots = Spots(hall.table)
    pick = []
    for row, told in zip(hall.ways, hall.classes):
        term = work.bank.terms[work.answer_number(told[0])]
        way = (term[0], tuple([spots.spot_of(part) for part in term[1:]]))
        pick.append([k for k, other_way in enumerate(row) if other_way == way][0])
    return tuple(pick)

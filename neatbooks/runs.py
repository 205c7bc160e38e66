"""Runs: left sides replaced by right sides, step by step, and the wrong places that they set right."""

from neatbooks.books import need_work
from neatbooks.closure import Hall
from neatbooks.errors import BadStep, NoPlace
from neatbooks.lores import need_term
from neatbooks.making import chosen_ways
from neatbooks.picks import need_pick
from neatbooks.shapes import is_integer, is_tuple_of
from neatbooks.trees import Bank


def steps(lore, book, term):
    """The ascending list of the pairs (place, rule's number) at which a left side stands within a term."""
    work = need_work(lore, book)
    need_term(lore, term)
    return work.steps_at(work.bank.take(term))


def is_place(thing):
    """Whether a thing is a tuple of integers."""
    return isinstance(thing, tuple) and all([is_integer(part) for part in thing])


def stepped(lore, book, term, place):
    """The term in which the left side at a place is replaced."""
    work = need_work(lore, book)
    need_term(lore, term)
    number = work.bank.take(term)
    if not is_place(place) or place not in [here for here, _ in work.steps_at(number)]:
        raise NoPlace()
    return work.bank.terms[work.replaced(number, place)]


def answer(lore, book, term):
    """What is left of a term when its left sides are replaced as long as there are some."""
    work = need_work(lore, book)
    need_term(lore, term)
    return work.bank.terms[work.answer_number(term)]


def is_step(found, thing):
    """Whether a thing is one of the steps that were found; a flag is no number of a part or a rule."""
    return is_tuple_of(thing, 2) and is_place(thing[0]) and is_integer(thing[1]) and thing in found


def run(lore, book, term, chooser):
    """The list of the terms from a term to its answer, a chooser taking one of the steps each time."""
    work = need_work(lore, book)
    need_term(lore, term)
    number = work.bank.take(term)
    terms = [work.bank.terms[number]]
    found = work.steps_at(number)
    while len(found) > 0:
        step = chooser(list(found))
        if not is_step(found, step):
            raise BadStep(len(terms) - 1)
        number = work.replaced(number, step[0])
        terms.append(work.bank.terms[number])
        found = work.steps_at(number)
    return terms


def wrong_numbers(hall, pick, shapes):
    """For each of the terms of a bank whether it is equal to a told one and made in a way that is not picked."""
    picked = {way: True for way in chosen_ways(hall.ways, pick)}
    found = []
    wrong = []
    for sign, parts in shapes:
        way = (sign, tuple([found[part] for part in parts]))
        found.append(hall.table.get(way))
        wrong.append(way in hall.table and way not in picked)
    return wrong


def places_of(shapes, number, wanted):
    """The ascending tuple of the places of a term at which something wanted stands."""
    found = []
    left = [((), number)]
    while left:
        place, here = left.pop()
        if wanted[here]:
            found.append(place)
        _, parts = shapes[here]
        for k in reversed(range(len(parts))):
            left.append((place + (k,), parts[k]))
    return tuple(found)


def wrong_places(lore, pick, term):
    """The ascending tuple of the places at which a term is not made in the picked way."""
    hall = Hall(lore)
    need_pick(hall.ways, pick)
    need_term(lore, term)
    bank = Bank()
    number = bank.take(term)
    return places_of(bank.shapes, number, wrong_numbers(hall, pick, bank.shapes))

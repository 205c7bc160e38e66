"""Ranks for a book's terms, and the numbers of all terms by them."""

from neatbooks.books import need_work
from neatbooks.closure import Hall
from neatbooks.counting import all_picks, need_few_choosing
from neatbooks.errors import NoRanks, TooMany
from neatbooks.knots import count_fitting
from neatbooks.lores import is_term, need_term
from neatbooks.making import making
from neatbooks.picks import all_options
from neatbooks.standing import Frame, in_order, part_of_bank, search
from neatbooks.trees import Bank

MOST_TERMS = 14
MOST_PICKS = 200


def need_few_terms(shapes):
    """Raises TooMany for more terms than an order is looked for."""
    if len(shapes) > MOST_TERMS:
        raise TooMany(MOST_TERMS)


def bank_of(book):
    """The pair of a bank of the terms within a book's sides, and of its rules' pairs of numbers."""
    bank = Bank()
    pairs = bank.take_lines(book)
    return (bank, pairs)


def searched(lore, book):
    """A bank of a book's terms and their frame, with what the search for an order of them finds."""
    need_work(lore, book)
    bank, pairs = bank_of(book)
    need_few_terms(bank.shapes)
    frame = Frame(bank.shapes, pairs)
    below, tree = search(frame, frame.start())
    return (bank, frame, below, tree)


def ranks(lore, book):
    """Ranks for a book, None if there are none."""
    bank, _, below, _ = searched(lore, book)
    if below is None:
        return None
    return [bank.terms[number] for number in in_order(below)]


def places_in(lore, bank, thing):
    """A dict from the numbers of a bank's terms to their places in a thing, None if this has not just these, once."""
    if not isinstance(thing, (list, tuple)) or len(thing) != len(bank.shapes):
        return None
    if not all([is_term(lore, term) for term in thing]):
        return None
    many = len(bank.shapes)
    places = {bank.take(term): place for place, term in enumerate(thing)}
    if len(places) < many or len(bank.shapes) > many:
        return None
    return places


def keeps_parts(shapes, places):
    """Whether each term stands behind its parts."""
    for number, (_, parts) in enumerate(shapes):
        if any([places[part] > places[number] for part in parts]):
            return False
    return True


def rows_by_sign(shapes, places):
    """A dict from signs to the lists of the places of the parts of their terms, the terms in the order of places."""
    rows = {}
    for number in sorted(places, key=lambda at: places[at]):
        sign, parts = shapes[number]
        rows.setdefault(sign, []).append([places[part] for part in parts])
    return rows


def is_nowhere_above(parts, other_parts):
    """Whether some numbers are nowhere above other ones."""
    return all([part <= other_part for part, other_part in zip(parts, other_parts)])


def rises(rows):
    """Whether none of the rows of one sign's terms is, by its parts, to stand ahead of one that is ahead of it."""
    for at, row in enumerate(rows):
        if any([is_nowhere_above(row, ahead) for ahead in rows[:at]]):
            return False
    return True


def are_ranks(lore, book, thing):
    """Whether a thing is ranks for what is a neat book."""
    bank, pairs = bank_of(book)
    places = places_in(lore, bank, thing)
    if places is None or not keeps_parts(bank.shapes, places):
        return False
    if any([places[right] > places[left] for left, right in pairs]):
        return False
    return all([rises(rows) for rows in list(rows_by_sign(bank.shapes, places).values())])


def is_ranks(lore, book, thing):
    """Whether a thing is ranks for a book."""
    need_work(lore, book)
    return are_ranks(lore, book, thing)


class Numbers:
    """The numbers of terms by ranks."""

    def __init__(self, lore, ranked):
        self.bank = Bank()
        self.known = []
        base = 2 + max([places for _, places in lore.signs])
        found = {}
        number = 1
        for term in ranked:
            number = number * base
            found[self.bank.take(term)] = number
        for at in range(len(self.bank.shapes)):
            self.known.append(found[at])
        self.rows = {}
        for at, (sign, parts) in enumerate(self.bank.shapes):
            self.rows.setdefault(sign, []).append(([found[part] for part in parts], found[at]))

    def made(self, sign, parts):
        """The number of a term that is not ranked, its parts having some numbers."""
        total = sum(parts)
        number = total + 1
        for ranked_parts, own in self.rows.get(sign, []):
            if is_nowhere_above(ranked_parts, parts):
                number = max(number, own + total - sum(ranked_parts))
        return number

    def of_term(self, term):
        """The number of a term."""
        at = self.bank.take(term)
        known = len(self.known)
        for further in range(known, len(self.bank.shapes)):
            sign, parts = self.bank.shapes[further]
            self.known.append(self.made(sign, [self.known[part] for part in parts]))
        return self.known[at]


def number_by(lore, book, ranks, term):
    """The number of a term by ranks."""
    need_work(lore, book)
    if not are_ranks(lore, book, ranks):
        raise NoRanks()
    need_term(lore, term)
    return Numbers(lore, ranks).of_term(term)


def frame_of(ways, pick):
    """The frame of the book of a pick, whatever its size."""
    made = making(ways, pick)
    shapes, pairs = part_of_bank(made.bank.shapes, made.pairs)
    need_few_terms(shapes)
    return Frame(shapes, pairs)


def count_ordered(lore):
    """How many picks have books that have ranks."""
    ways = Hall(lore).ways
    need_few_choosing(ways)
    if count_fitting(all_options(ways)) > MOST_PICKS:
        raise TooMany(MOST_PICKS)
    frames = [frame_of(ways, pick) for pick in all_picks(ways)]
    return len([frame for frame in frames if search(frame, frame.start())[0] is not None])

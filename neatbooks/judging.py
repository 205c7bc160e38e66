"""What the judges of papers and of logs have in common: triples of two terms and a reason, each behind others."""

from neatbooks.shapes import are_numbers_below, is_tuple_of
from neatbooks.trees import fits


class TripleJudge:
    """Judges triple by triple; the pairs are the numbers of the terms of the triples ahead."""

    def __init__(self, lore, bank):
        self.places = dict(lore.signs)
        self.bank = bank
        self.pairs = []

    def lets(self, thing):
        """Whether a thing is a triple that may stand next; if so it is kept."""
        if not is_tuple_of(thing, 3) or not fits(self.places, thing[0]) or not fits(self.places, thing[1]):
            return False
        pair = (self.bank.take(thing[0]), self.bank.take(thing[1]))
        if not self.is_reason(pair, thing[2]):
            return False
        self.pairs.append(pair)
        return True

    def lets_all(self, things):
        """Whether some things, one at least, are triples that may stand one behind the other."""
        for thing in things:
            if not self.lets(thing):
                return False
        return len(things) > 0

    def is_reason(self, pair, thing):
        """Whether a thing is a reason for a pair."""
        if not isinstance(thing, tuple) or len(thing) == 0 or not isinstance(thing[0], str):
            return False
        if thing[0] == "on":
            return len(thing) == 3 and self.is_on(pair, thing[1:])
        return self.is_own_reason(pair, thing)

    def is_own_reason(self, pair, thing):
        """Whether a tuple that begins with a word is a reason that just one kind of judge lets: there are none here."""
        return False

    def is_on(self, pair, numbers):
        """Whether two numbers are of triples of which the one goes on to the other."""
        if not are_numbers_below(numbers, len(self.pairs)):
            return False
        first = self.pairs[numbers[0]]
        last = self.pairs[numbers[1]]
        return first[0] == pair[0] and first[1] == last[0] and last[1] == pair[1]

    def is_like(self, pair, thing):
        """Whether a thing tells, for two terms of one sign, how their parts stand to one another, place by place."""
        sign, parts = self.bank.shapes[pair[0]]
        other_sign, other_parts = self.bank.shapes[pair[1]]
        if sign != other_sign or not is_tuple_of(thing, len(parts)):
            return False
        return self.are_likes(list(zip(parts, other_parts)), thing)

    def are_likes(self, rows, things):
        """Whether things tell it for the pairs of parts: each kind of judge says how."""
        return False

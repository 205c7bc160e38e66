"""What a live lore holds by its lines and wishes: which of these are granted, a pick and its book."""

from neatbooks.books import need_small, rules_of
from neatbooks.closure import Hall
from neatbooks.lores import told_in
from neatbooks.making import making
from neatbooks.picks import can_complete, completed_ways
from neatbooks.trees import from_within, words


def way_of(hall, term):
    """The way in which a told term is made."""
    parts = [from_within(part, lambda sign, numbers: hall.table[(sign, numbers)]) for part in term[1:]]
    return (term[0], tuple(parts))


def granted_in(hall, lore, wished):
    """The pair of the lot of the numbers of the granted wishes, and of a dict of the ways that they ask for."""
    among = {words(term): True for term in told_in(lore.lines)}
    known = {}
    lot = ()
    for number, term in enumerate(wished):
        if words(term) in among:
            way = way_of(hall, term)
            made = hall.table[way]
            at = hall.ways[made].index(way)
            if known.get(made, at) == at and can_complete(hall.ways, {**known, made: at}):
                known[made] = at
                lot = lot + (number,)
    return (lot, known)


class Holding:
    """What is held by a lore and some wishes. It never changes: a live lore goes from one to another."""

    def __init__(self, told, wished):
        self.told = told
        self.wished = wished
        hall = Hall(told)
        self.lot, known = granted_in(hall, told, wished)
        self.chosen = completed_ways(hall.ways, known)
        need_small(hall.ways, self.chosen)
        self.rules = rules_of(making(hall.ways, self.chosen))


def rule_words(rule):
    """What tells rules apart without recursion."""
    return (words(rule[0]), words(rule[1]))


def rules_besides(rules, others):
    """The list of those of some rules that are not among others."""
    known = {rule_words(rule): True for rule in others}
    return [rule for rule in rules if rule_words(rule) not in known]

"""Judges of equality that come from outside, put to the test."""

from itertools import combinations

from neatbooks.closure import Hall
from neatbooks.errors import NoAnswer
from neatbooks.lores import bank_of_told
from neatbooks.trees import ascending


def classed_terms(lore):
    """The list of the pairs (class, term) of the told terms, by terms, ascending."""
    table = Hall(lore).table
    bank = bank_of_told(lore.lines)
    found = []
    for sign, parts in bank.shapes:
        found.append(table[(sign, tuple([found[part] for part in parts]))])
    return [(found[number], bank.terms[number]) for number in ascending(bank)]


def wrong_judge(lore, judge):
    """The least pair of told terms for which a judge gives not what equal tells, None if there is none."""
    rows = classed_terms(lore)
    for (made, one), (other_made, other) in combinations(rows, 2):
        says = judge(one, other)
        if not isinstance(says, bool):
            raise NoAnswer(one, other)
        if says != (made == other_made):
            return (one, other)
    return None

"""Judges of equality that come from outside, put to the test."""

from itertools import combinations

from neatbooks.closure import Hall, Spots
from neatbooks.errors import NoAnswer
from neatbooks.lores import told_terms


def wrong_judge(lore, judge):
    """The least pair of told terms for which a judge gives not what equal tells, None if there is none."""
    spots = Spots(Hall(lore).table)
    terms = list(told_terms(lore))
    for one, other in combinations(terms, 2):
        says = judge(one, other)
        if not isinstance(says, bool):
            raise NoAnswer(one, other)
        if says != spots.are_one(one, other):
            return (one, other)
    return None

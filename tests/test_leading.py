"""Promise 6.1: changes from pick to pick, and the rules that are kept."""

import unittest
from itertools import permutations, product
from math import factorial

from neatbooks.books import book
from neatbooks.errors import NoPick, TooMany
from neatbooks.leading import changes, count_changes, is_changes, rules_kept
from neatbooks.lores import Lore
from tests.samples import A, B, BARE, TWO, WIDE, chain, doubled_eleven_times, f, goes_round, greatest_pick, h
from tests.samples import just_two_thousand, layers, nested, no_picks, odd_things, picks_of, replaced, row_of_signs
from tests.samples import small_lores


def differing(pick, other_pick):
    """The numbers of the classes at which two picks differ."""
    return [k for k in range(len(pick)) if pick[k] != other_pick[k]]


def shortest_ones(lore, pick, other_pick):
    """All changes that change each class at which both differ once, found order by order."""
    found = []
    for order in permutations(differing(pick, other_pick)):
        row = [pick]
        for number in order:
            row.append(replaced(row[-1], number, other_pick[number]))
        if not any(goes_round(lore, part) for part in row):
            found.append(tuple(row))
    return found


def pairs_of_picks():
    """Small lores with pairs of their picks."""
    for lore in [row_of_signs(4, True), layers(4)] + small_lores(60, 6, 90):
        picks = picks_of(lore)
        for pair in list(product(picks[:6] + picks[-2:], repeat=2)):
            yield (lore,) + pair


def slow_is_changes(picks, pick, other_pick, thing):
    """Judges changes word by word, picks being all picks of a lore."""
    if type(thing) is not tuple or not thing or not all(type(part) is tuple for part in thing):
        return False
    for part in thing:
        if not all(type(number) is int for number in part) or part not in picks:
            return False
    if thing[0] != pick or thing[-1] != other_pick:
        return False
    return all(len(differing(one, other)) == 1 for one, other in zip(thing, thing[1:]))


class Changes(unittest.TestCase):
    def check_too_many(self, most, call):
        with self.assertRaises(TooMany) as caught:
            call()
        self.assertEqual(caught.exception.most, most)

    def test_by_hand(self):
        self.assertEqual(changes(TWO, (0, 1), (1, 0)), ((0, 1), (0, 0), (1, 0)))
        self.assertEqual(count_changes(TWO, (0, 1), (1, 0)), 1)
        self.assertEqual(changes(TWO, (0, 0), (0, 0)), ((0, 0),))
        self.assertEqual(count_changes(TWO, (0, 0), (0, 0)), 1)
        self.assertEqual(rules_kept(TWO, (0, 0), (0, 1)), 0)
        self.assertEqual(rules_kept(TWO, (0, 1), (0, 1)), 2)

    def test_without_classes(self):
        self.assertEqual((changes(BARE, (), ()), count_changes(BARE, (), ()), rules_kept(BARE, (), ())), (((),), 1, 0))
        self.assertIs(is_changes(BARE, (), (), ((),)), True)
        self.assertIs(is_changes(BARE, (), (), ((), ())), False)
        self.assertIs(is_changes(BARE, (), (), ()), False)

    def test_order_by_order(self):
        most = 0
        for lore, pick, other_pick in pairs_of_picks():
            right = shortest_ones(lore, pick, other_pick)
            self.assertIn(changes(lore, pick, other_pick), right)
            self.assertEqual(count_changes(lore, pick, other_pick), len(right))
            for row in right[:6]:
                self.assertIs(is_changes(lore, pick, other_pick, row), True)
            most = max(most, len(right))
        self.assertEqual(most, 24)

    def test_twelve_classes_and_thirteen(self):
        lore = layers(12)
        none, each = (0,) * 13, (0,) + (1,) * 12
        self.assertEqual(len(changes(lore, none, each)), 13)
        self.assertIs(is_changes(lore, none, each, changes(lore, none, each)), True)
        self.assertEqual(count_changes(lore, none, each), factorial(12))
        lore = layers(13)
        none, each = (0,) * 14, (0,) + (1,) * 13
        self.assertEqual(count_changes(lore, none, each[:-1] + (0,)), factorial(12))
        self.check_too_many(12, lambda: count_changes(lore, none, each))
        self.assertEqual(count_changes(lore, each, each), 1)
        self.assertEqual(len(changes(lore, none, each)), 14)
        for thing in [each[:-1], each[:-1] + (2,), each[:-1] + (True,)] + no_picks():
            self.assertRaises(NoPick, count_changes, lore, thing, each)
            self.assertRaises(NoPick, count_changes, lore, none, thing)

    def test_a_ring_of_twelve_signs(self):
        ring = row_of_signs(11, True)
        one, other = (1,) * 10 + (0,), (0,) + (1,) * 10
        self.assertEqual(changes(ring, one, other), (one, (0,) + (1,) * 9 + (0,), other))
        self.assertEqual(count_changes(ring, one, other), 1)
        self.assertEqual(count_changes(ring, (0,) * 11, other), factorial(10))

    def test_kinds(self):
        self.assertIs(type(count_changes(TWO, (0, 0), (0, 1))), int)
        self.assertIs(type(rules_kept(TWO, (0, 0), (0, 1))), int)
        self.assertIs(type(changes(TWO, (0, 0), (0, 1))), tuple)

    def test_no_pick(self):
        for thing in no_picks():
            for call in (
                lambda: changes(TWO, thing, (0, 0)), lambda: changes(TWO, (0, 0), thing),
                lambda: count_changes(TWO, thing, (0, 0)), lambda: count_changes(TWO, (0, 0), thing),
                lambda: is_changes(TWO, thing, (0, 0), None), lambda: is_changes(TWO, (0, 0), thing, None),
                lambda: rules_kept(TWO, thing, (0, 0)), lambda: rules_kept(TWO, (0, 0), thing),
                lambda: changes(TWO, thing, thing), lambda: is_changes(TWO, thing, thing, (thing,)),
            ):
                self.assertRaises(NoPick, call)

    def test_nothing_is_changed(self):
        lore = Lore(TWO.signs, TWO.lines)
        for _ in range(2):
            self.assertEqual(changes(lore, (0, 1), (1, 0)), ((0, 1), (0, 0), (1, 0)))
        self.assertEqual(lore, TWO)


class Judged(unittest.TestCase):
    def test_of_any_length(self):
        there_and_back = ((0, 1), (0, 0), (0, 1), (0, 0), (1, 0), (0, 0), (1, 0))
        self.assertIs(is_changes(TWO, (0, 1), (1, 0), there_and_back), True)
        self.assertIs(is_changes(TWO, (0, 1), (0, 0), there_and_back), False)
        self.assertIs(is_changes(TWO, (0, 0), (1, 0), there_and_back), False)
        self.assertIs(is_changes(TWO, (0, 0), (0, 0), ((0, 0), (0, 1), (0, 0))), True)
        self.assertIs(is_changes(TWO, (0, 0), (0, 0), ((0, 0), (0, 0))), False)
        self.assertIs(is_changes(TWO, (0, 0), (0, 1), ((0, 0), (0, 1)) * 1500), True)

    def test_with_one_thing_changed(self):
        seen = {True: 0, False: 0}
        for lore, pick, other_pick in pairs_of_picks():
            row = changes(lore, pick, other_pick)
            picks = picks_of(lore)
            for thing in self.changed(row):
                flag = is_changes(lore, pick, other_pick, thing)
                self.assertIs(flag, slow_is_changes(picks, pick, other_pick, thing), thing)
                seen[flag] += 1
            if sum(seen.values()) > 9000:
                break
        self.assertGreater(seen[True], 10)
        self.assertGreater(seen[False], 3000)

    def changed(self, row):
        yield row[::-1]
        yield list(row)
        for k in range(len(row)):
            yield row[:k] + row[k + 1:]
            yield row[:k] + row[k:k + 1] + row[k:]
            yield row[:k + 1] + row[max(0, k - 1):]
            yield replaced(row, k, list(row[k]))
            yield replaced(row, k, row[k][:-1])
            yield replaced(row, k, row[k] + (0,))
            for at in range(len(row[k])):
                for number in (row[k][at] + 1, row[k][at] - 1, bool(row[k][at]), None, "0", 99):
                    yield replaced(row, k, replaced(row[k], at, number))

    def test_a_choice_that_goes_round_on_the_way(self):
        self.assertIs(is_changes(TWO, (0, 1), (1, 0), ((0, 1), (1, 1), (1, 0))), False)

    def test_two_classes_at_once(self):
        self.assertIs(is_changes(TWO, (0, 1), (1, 0), ((0, 1), (1, 0))), False)

    def test_what_are_no_changes(self):
        for thing in odd_things() + [nested(lambda part: (part,), 59), {(0, 0): 0}, [(0, 0)], "00"]:
            self.assertIs(is_changes(TWO, (0, 0), (0, 0), thing), False)
            right = repr(thing) == "(0, 0)"
            self.assertIs(is_changes(TWO, (0, 0), (0, 0), (thing,)), right)
            self.assertIs(is_changes(TWO, (0, 0), (0, 1), (thing, (0, 1))), right)


class Kept(unittest.TestCase):
    def test_by_the_books(self):
        most = 0
        for lore, pick, other_pick in pairs_of_picks():
            many = len(set(book(lore, pick)) & set(book(lore, other_pick)))
            self.assertEqual(rules_kept(lore, pick, other_pick), many)
            if pick != other_pick:
                most = max(most, many)
        self.assertGreater(most, 1)

    def test_rules_with_other_answers_are_not_kept(self):
        lore = Lore(WIDE, ((A, B), (f(A), chain("g", 2, A)), (h(A, A), f(f(A)))))
        for pick, other_pick in product(picks_of(lore), repeat=2):
            many = len(set(book(lore, pick)) & set(book(lore, other_pick)))
            self.assertEqual(rules_kept(lore, pick, other_pick), many)

    def test_two_thousand_signs(self):
        lore = just_two_thousand()
        great = greatest_pick(lore)
        least = (0,) * len(great)
        many = len(set(book(lore, great)) & set(book(lore, least)))
        self.assertEqual(rules_kept(lore, great, least), many)
        self.assertEqual(rules_kept(lore, great, great), 8)
        lore = just_two_thousand(1)
        great = greatest_pick(lore)
        self.assertEqual(rules_kept(lore, least, least), 8)
        for pair in ((great, least), (least, great), (great, great)):
            with self.assertRaises(TooMany) as caught:
                rules_kept(lore, *pair)
            self.assertEqual(caught.exception.most, 2000)

    def test_no_pick_ahead_of_too_many(self):
        lore = doubled_eleven_times()
        great = greatest_pick(lore)
        for thing in (great[:-1], None, list(great)):
            self.assertRaises(NoPick, rules_kept, lore, great, thing)
            self.assertRaises(NoPick, rules_kept, lore, thing, great)
        self.assertGreater(len(changes(lore, great, (0,) * len(great))), 3)


if __name__ == "__main__":
    unittest.main()

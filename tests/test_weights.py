"""Promise 7.1: weights, and the least ones."""

import unittest
from random import Random

from neatbooks.books import answers, book, is_neat
from neatbooks.errors import NoWeights, TooMany
from neatbooks.hall import ways
from neatbooks.lores import Lore, told_terms
from neatbooks.weights import least_pick, least_weight, least_weights
from tests.samples import A, B, BARE, FOUR, LOOP, TWO, WIDE, chain, doubled_eleven_times, f, g, greatest_pick, h
from tests.samples import just_two_thousand, nested, odd_things, picks_of, slow_answers, slow_book, small_lores

ONES = {"a": 1, "b": 1, "f": 1}


def weight_of(weights, term):
    """The weight of a term."""
    return weights[term[0]] + sum(weight_of(weights, part) for part in term[1:])


def weight_of_book(weights, rules):
    """The weight of a book."""
    return sum(weight_of(weights, side) for rule in rules for side in rule)


def many_weights(random, signs):
    """Some weights of some signs."""
    yield {sign: 1 for sign, _ in signs}
    for most in (3, 9, 10 ** 30):
        yield {sign: random.randint(1, most) for sign, _ in signs}
    yield {sign: 10 ** 30 for sign, _ in signs}


class Weights(unittest.TestCase):
    def check_by_all_picks(self, lore, weights):
        picks = picks_of(lore)
        found = [tuple(weight_of(weights, term) for term in slow_answers(lore, pick)) for pick in picks]
        least = tuple(min(row[k] for row in found) for k in range(len(ways(lore))))
        self.assertEqual(least_weights(lore, weights), least)
        right = [pick for pick, row in zip(picks, found) if row == least]
        self.assertEqual(least_pick(lore, weights), right[0])
        books = [weight_of_book(weights, slow_book(lore, pick)) for pick in picks]
        self.assertEqual(least_weight(lore, weights), min(books))
        self.assertEqual(least_weight(lore, weights), weight_of_book(weights, slow_book(lore, right[0])))

    def test_examples(self):
        weights = {"a": 5, "b": 1, "f": 2}
        self.assertEqual(least_weights(TWO, weights), (3, 1))
        self.assertEqual(least_pick(TWO, weights), (1, 0))
        self.assertEqual(book(TWO, (1, 0)), ((A, f(B)), (f(f(B)), B)))
        self.assertEqual(least_weight(TWO, weights), 5 + 3 + 5 + 1)
        self.assertEqual((least_weights(LOOP, {"a": 7, "f": 1}), least_weight(LOOP, {"a": 7, "f": 1})), ((7,), 15))
        self.assertEqual(least_weights(FOUR, {"a": 1, "b": 2, "f": 3, "g": 4}), (1, 2, 4, 5))

    def test_kinds(self):
        self.assertIs(type(least_weights(TWO, ONES)), tuple)
        self.assertIs(type(least_pick(TWO, ONES)), tuple)
        self.assertIs(type(least_weight(TWO, ONES)), int)

    def test_by_all_picks(self):
        random = Random(6)
        for lore in small_lores(40, 6, 150):
            for weights in many_weights(random, lore.signs):
                self.check_by_all_picks(lore, weights)

    def test_the_least_of_picks_with_one_weight(self):
        self.assertEqual(least_pick(TWO, {"a": 2, "b": 1, "f": 1}), (0, 0))
        self.assertEqual(least_weights(TWO, {"a": 2, "b": 1, "f": 1}), (2, 1))
        lore = Lore(WIDE, ((A, f(B)), (A, g(B)), (h(B, B), A)))
        self.assertEqual(least_pick(lore, {"a": 9, "b": 1, "c": 1, "f": 4, "g": 3, "h": 2}), (2, 0))
        self.assertEqual(ways(lore)[0], (("a", ()), ("f", (1,)), ("g", (1,)), ("h", (1, 1))))
        self.assertEqual(least_pick(lore, {"a": 9, "b": 1, "c": 1, "f": 3, "g": 3, "h": 2}), (1, 0))
        self.assertEqual(least_pick(lore, {"a": 4, "b": 1, "c": 1, "f": 3, "g": 3, "h": 2}), (0, 0))

    def test_no_neat_book_has_less_weight(self):
        lore = Lore(TWO.signs, ((A, f(B)),))
        for weights in ({"a": 5, "b": 1, "f": 1}, {"a": 1, "b": 5, "f": 3}):
            rules = [((A, f(B)),), ((f(B), A),), ((A, f(B)), (f(B), A))]
            neat = [weight_of_book(weights, thing) for thing in rules if is_neat(lore, thing)]
            self.assertEqual(least_weight(lore, weights), min(neat))

    def test_great_weights(self):
        lore = Lore(WIDE, ((A, B), (f(A), h(A, A))))
        weights = {"a": 10 ** 30, "b": 10 ** 30 + 1, "c": 1, "f": 10 ** 30, "g": 1, "h": 1}
        self.assertEqual(least_weights(lore, weights), (10 ** 30, 2 * 10 ** 30))
        self.assertEqual(least_weight(lore, weights), (2 * 10 ** 30 + 1) + (4 * 10 ** 30 + 1))

    def test_more_than_two_thousand_signs(self):
        lore = doubled_eleven_times()
        great = {"a": 1, "b": 10 ** 30, "c": 10 ** 30, "d": 10 ** 30, "t": 1}
        pick = least_pick(lore, great)
        self.assertEqual(pick, greatest_pick(lore))
        self.assertRaises(TooMany, answers, lore, pick)
        self.assertEqual(max(least_weights(lore, great)), 2 ** 12 - 1)
        self.assertEqual(least_weight(lore, great), 3 * 10 ** 30 + (2 ** 5 - 1) + (2 ** 9 - 1) + (2 ** 12 - 1))
        self.check_by_all_picks(lore, great)
        self.assertEqual(least_weight(lore, {sign: 1 for sign in "abcdt"}), 3 + 3 * 31 - 16)

    def test_without_classes(self):
        weights = {"a": 1, "b": 2, "f": 3, "g": 4}
        self.assertEqual((least_weights(BARE, weights), least_pick(BARE, weights), least_weight(BARE, weights)), ((), (), 0))

    def test_two_thousand_signs(self):
        lore = just_two_thousand(1)
        self.assertEqual(least_pick(lore, {sign: 1 for sign, _ in lore.signs}), (0,) * len(ways(lore)))

    def test_many_terms(self):
        lore = Lore(WIDE, ((chain("f", 29, A), chain("g", 29, A)), (B, A)))
        self.assertEqual(len(told_terms(lore)), 60)
        self.assertEqual(least_weights(lore, {sign: 1 for sign, _ in WIDE})[-1], 30)

    def test_no_weights(self):
        wrong = [
            {}, {"a": 1, "b": 1}, {"a": 1, "b": 1, "f": 1, "g": 1}, {"a": 1, "b": 1, "g": 1}, {"a": 0, "b": 1, "f": 1},
            {"a": 1, "b": -1, "f": 1}, {"a": True, "b": 1, "f": 1}, {"a": 1, "b": False, "f": 1},
            {"a": "1", "b": 1, "f": 1}, {"a": 1, "b": [1], "f": 1}, {"a": 1, "b": None, "f": 1}, {"a": (1,), "b": 1, "f": 1},
            {b"a": 1, "b": 1, "f": 1}, {0: 1, "b": 1, "f": 1}, {None: 1, "b": 1, "f": 1}, {("a",): 1, "b": 1, "f": 1},
            [("a", 1), ("b", 1), ("f", 1)], (("a", 1), ("b", 1), ("f", 1)), [1, 1, 1], (1, 1, 1), "abf", 3, ONES.keys(),
            list(ONES), {"a": -10 ** 39, "b": 1, "f": 1}, {"a": 1, "b": 1, "f": nested(lambda part: [part], 58)},
        ]
        for thing in wrong + odd_things():
            for call in (least_weights, least_pick, least_weight):
                self.assertRaises(NoWeights, call, TWO, thing)

    def test_nothing_is_changed(self):
        weights = {"f": 2, "a": 5, "b": 1}
        for _ in range(2):
            self.assertEqual(least_weights(TWO, weights), (3, 1))
            self.assertEqual((least_pick(TWO, weights), least_weight(TWO, weights)), ((1, 0), 14))
        self.assertEqual(list(weights.items()), [("f", 2), ("a", 5), ("b", 1)])


if __name__ == "__main__":
    unittest.main()

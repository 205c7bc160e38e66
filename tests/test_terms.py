"""Promise 13.1: the terms of a class, by their sizes."""

import unittest

from neatbooks.errors import NoClass, NoNumber
from neatbooks.hall import class_of, classes, ways
from neatbooks.lores import Lore, size
from neatbooks.terms import count_terms, has_endless, term_at
from tests.samples import A, B, BARE, FOUR, LOOP, ONE, REST, TWICE, TWO, WIDE, chain, f, h, how_great, layers, odd_things
from tests.samples import sixty_lines, small_lores, small_terms, some_lores, within


def terms_by_class(lore, most_size):
    """A dict from pairs (class, size) to the lists of their terms, each of all terms of the signs being looked at."""
    found = {}
    for term in small_terms(lore.signs, most_size, 10 ** 6):
        number = class_of(lore, term)
        if number is not None:
            found.setdefault((number, how_great(term)), []).append(term)
    return found


def slow_counts(lore, most_size):
    """A dict from pairs (class, size) to how many terms there are, counted way by way."""
    counts = {}
    for total in range(1, most_size + 1):
        for number, row in enumerate(ways(lore)):
            many = 0
            for _, parts in row:
                if not parts:
                    many += total == 1
                elif len(parts) == 1:
                    many += counts.get((parts[0], total - 1), 0)
                else:
                    for k in range(1, total - 1):
                        many += counts.get((parts[0], k), 0) * counts.get((parts[1], total - 1 - k), 0)
            counts[number, total] = many
    return counts


def slow_has_endless(lore, number):
    """Whether a class, or one of which it is made, stands among what it is made of."""
    below = {c: set() for c in range(len(classes(lore)))}
    for _ in below:
        for c, row in enumerate(ways(lore)):
            for _, parts in row:
                for part in parts:
                    below[c] |= {part} | below[part]
    return any(c in below[c] for c in below[number] | {number})


RICH = Lore((("a", 0), ("b", 0), ("f", 1), ("h", 2)), ((h(A, B), A), (h(B, A), B), (f(A), B), (h(B, B), h(A, A))))
LORES = [LOOP, TWO, FOUR, ONE, REST, TWICE, BARE, RICH] + small_lores(300, 8, 80)


class Terms(unittest.TestCase):
    def test_examples(self):
        self.assertEqual((count_terms(TWO, 0, 3), has_endless(TWO, 0)), (1, True))
        self.assertEqual(term_at(TWO, 0, 3, 0), f(f(A)))

    def test_by_hand(self):
        self.assertEqual([count_terms(LOOP, 0, k) for k in (1, 2, 60)], [1, 1, 1])
        self.assertEqual(term_at(LOOP, 0, 60, 0), chain("f", 59, A))
        self.assertEqual([count_terms(ONE, 0, k) for k in (1, 2, 60)], [2, 0, 0])
        self.assertEqual([term_at(ONE, 0, 1, k) for k in (0, 1)], [A, B])
        lore = Lore((("a", 0), ("h", 2)), ((h(A, A), A),))
        # As many as there are trees with so many forks.
        self.assertEqual([count_terms(lore, 0, k) for k in (1, 2, 3, 5, 7, 9, 59)], [
            1, 0, 1, 2, 5, 14, 1002242216651368])
        self.assertEqual([term_at(lore, 0, 5, k) for k in (0, 1)], [h(A, h(A, A)), h(h(A, A), A)])

    def test_kinds(self):
        self.assertIs(type(count_terms(TWO, 0, 3)), int)
        self.assertIs(type(term_at(TWO, 0, 3, 0)), tuple)
        self.assertIs(type(has_endless(TWO, 0)), bool)

    def test_term_by_term(self):
        seen = 0
        for lore in LORES:
            most = 7 if len(small_terms(lore.signs, 7, 10 ** 6)) < 4000 else 5
            found = terms_by_class(lore, most)
            for number in range(len(classes(lore))):
                for total in range(1, most + 1):
                    row = sorted(found.get((number, total), []))
                    self.assertEqual(count_terms(lore, number, total), len(row))
                    for k in range(0, len(row), 1 + len(row) // 40):
                        self.assertEqual(term_at(lore, number, total, k), row[k])
                    self.assertRaises(NoNumber, term_at, lore, number, total, len(row))
                    seen += len(row) > 3
        self.assertGreater(seen, 30)

    def test_sizes_up_to_sixty(self):
        for lore in [RICH, TWO, FOUR, layers(5)] + LORES[-25:]:
            counts = slow_counts(lore, 60)
            for number in range(len(classes(lore))):
                for total in (8, 31, 59, 60):
                    many = count_terms(lore, number, total)
                    self.assertEqual(many, counts[number, total])
                    self.check_some(lore, number, total, many)

    def check_some(self, lore, number, total, many):
        """Checks some of the terms of a size: the first and the last ones, and some between, ascending."""
        numbers = sorted({k for k in (0, 1, many // 3, many // 2, many // 2 + 1, many - 2, many - 1) if 0 <= k < many})
        row = [term_at(lore, number, total, k) for k in numbers]
        for term in row:
            self.assertEqual((size(lore, term), class_of(lore, term)), (total, number))
        self.assertTrue(all(one < other for one, other in zip(row, row[1:])))
        for k in (many, many + 1, -1, 10 ** 39 + many):
            self.assertRaises(NoNumber, term_at, lore, number, total, k)

    def test_great_indices(self):
        many = count_terms(RICH, 0, 60)
        self.assertGreater(many, 10 ** 15)
        for k in (0, 5, many // 7, many - 2):
            self.assertLess(term_at(RICH, 0, 60, k), term_at(RICH, 0, 60, k + 1))
        self.assertRaises(NoNumber, term_at, RICH, 0, 60, many)

    def test_many_neighbours(self):
        for total in (9, 10, 11):
            for number in range(len(classes(RICH))):
                row = [term_at(RICH, number, total, k) for k in range(count_terms(RICH, number, total))]
                self.assertEqual(sorted(set(row)), row)

    def test_endless(self):
        seen = {True: 0, False: 0}
        for lore in LORES + some_lores(60, 6, 4):
            for number in range(len(classes(lore))):
                flag = slow_has_endless(lore, number)
                self.assertIs(has_endless(lore, number), flag)
                seen[flag] += 1
                if flag is False and len(classes(lore)) < 6:
                    self.assertEqual([count_terms(lore, number, k) for k in range(32, 61)], [0] * 29)
        self.assertGreater(min(seen.values()), 60)
        self.assertEqual([has_endless(lore, 0) for lore in (LOOP, TWO, FOUR, ONE)], [True, True, False, False])

    def test_made_of_what_is_endless(self):
        lore = Lore(WIDE, ((f(A), A), (h(A, B), h(B, A)), (("g", B), ("c",))))
        for number, row in enumerate(classes(lore)):
            self.assertIs(has_endless(lore, number), any(A in within(term) for term in row))

    def test_sixty_told_terms(self):
        lore = Lore(WIDE, sixty_lines())
        counts = slow_counts(lore, 60)
        for number in range(len(classes(lore))):
            self.assertIs(has_endless(lore, number), False)
            self.assertEqual([count_terms(lore, number, k) for k in (1, 15, 30, 60)], [
                counts[number, k] for k in (1, 15, 30, 60)])
        number = class_of(lore, chain("f", 29, B))
        self.assertEqual([term_at(lore, number, 30, k) for k in range(4)], [
            chain("f", 29, A), chain("f", 29, B), chain("g", 29, A), chain("g", 29, B)])

    def test_errors_in_their_order(self):
        for thing in odd_things() + [1, 2, 60, 61, -1, 10 ** 40, "1", (1,), [1]]:
            number = thing if type(thing) is int else None
            if number not in (0, 1):
                for total in (0, 3, None):
                    self.assertRaises(NoClass, count_terms, TWO, thing, total)
                    self.assertRaises(NoClass, term_at, TWO, thing, total, 0)
                self.assertRaises(NoClass, has_endless, TWO, thing)
            if number is None or not 1 <= number <= 60:
                self.assertRaises(NoNumber, count_terms, TWO, 0, thing)
                self.assertRaises(NoNumber, term_at, TWO, 0, thing, 0)
            if number != 0:
                self.assertRaises(NoNumber, term_at, TWO, 0, 3, thing)
        self.assertRaises(NoClass, count_terms, BARE, 0, 1)
        self.assertRaises(NoClass, has_endless, BARE, 0)
        self.assertRaises(NoNumber, term_at, ONE, 0, 2, 0)

    def test_equal_calls_give_equal_answers(self):
        lore = Lore(TWO.signs, TWO.lines)
        for _ in range(2):
            self.assertEqual((count_terms(lore, 1, 4), term_at(lore, 1, 4, 0), has_endless(lore, 1)), (
                1, chain("f", 3, A), True))
        self.assertEqual(lore, TWO)


if __name__ == "__main__":
    unittest.main()

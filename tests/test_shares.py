"""Promise 12.2: what share of the worlds keeps a lore, and how it falls."""

import unittest
from fractions import Fraction
from itertools import product
from math import gcd

from neatbooks.changing import with_line
from neatbooks.errors import NoNumber, NoTerm, TooMany
from neatbooks.hall import classes, ways
from neatbooks.lines import first_untold, load
from neatbooks.lores import Lore, is_term
from neatbooks.shares import fall, level, long_run, share, share_equal, told_by
from neatbooks.worlds import keeps
from tests.samples import A, B, BARE, C, FOUR, LOOP, REST, TWO, WIDE, chain, f, g, h, nested, odd_things
from tests.samples import small_terms
from tests.test_joinings import free_signs, slow_joinings, slow_ways, some_small

GREATEST = 10 ** 30


def all_worlds(signs, many):
    """All worlds of some signs with so many things."""
    tables = []
    for _, places in signs:
        keys = list(product(range(many), repeat=places))
        tables.append([dict(zip(keys, row)) for row in product(range(many), repeat=len(keys))])
    for row in product(*tables):
        yield (many, {sign: table for (sign, _), table in zip(signs, row)})


def value_in(tables, term):
    return tables[term[0]][tuple(value_in(tables, part) for part in term[1:])]


def kept_by(lore, tables):
    return all(value_in(tables, one) == value_in(tables, other) for one, other in lore.lines)


def how_many_worlds(signs, many):
    total = 1
    for _, places in signs:
        total *= many ** (many ** places)
    return total


def slow_sizes(lore):
    """For each joining, found pattern by pattern, how many joined classes and how many joined ways it has."""
    return [(len(set(pattern)), len(slow_ways(lore, pattern))) for pattern in slow_joinings(lore)]


def slow_share(sizes, many):
    """The sum over the joinings as a fraction of Python's library."""
    total = Fraction(0)
    for j, e in sizes:
        top = 1
        for k in range(j):
            top *= many - k
        total += Fraction(top, many ** e)
    return total


def as_pair(fraction):
    return (fraction.numerator, fraction.denominator)


def lores_with_few_worlds(most, many):
    """Small lores of which there are not too many worlds with so many things."""
    return [lore for lore in some_small(9, 120) if how_many_worlds(lore.signs, many) <= most]


class Shares(unittest.TestCase):
    def test_examples(self):
        self.assertEqual((share(LOOP, 2), fall(FOUR), level(FOUR)), ((1, 2), 1, 1))

    def test_kinds(self):
        for pair in (share(TWO, 2), share_equal(TWO, A, B, 2), long_run(TWO, A, B)):
            self.assertEqual([type(pair), type(pair[0]), type(pair[1]), len(pair)], [tuple, int, int, 2])
        self.assertEqual([type(fall(TWO)), type(level(TWO)), type(told_by(TWO))], [int, int, Lore])

    def test_world_by_world(self):
        seen = 0
        for many in (1, 2, 3):
            for lore in lores_with_few_worlds(800, many):
                kept = total = 0
                for _, tables in all_worlds(lore.signs, many):
                    total += 1
                    kept += kept_by(lore, tables)
                divisor = gcd(kept, total)
                self.assertEqual(share(lore, many), (kept // divisor, total // divisor), (lore.lines, many))
                seen += kept < total
        self.assertGreater(seen, 60)

    def test_two_places_and_three_things(self):
        signs = (("a", 0), ("h", 2))
        for lines in (((h(A, h(A, A)), A), (h(A, A), h(h(A, A), A))),):
            lore = Lore(signs, lines)
            kept = sum(kept_by(lore, tables) for _, tables in all_worlds(signs, 3))
            self.assertEqual(Fraction(*share(lore, 3)), Fraction(kept, 3 ** 10))

    def test_joining_by_joining(self):
        for lore in some_small(6):
            sizes = slow_sizes(lore)
            for many in (1, 2, 3, 4, 7, 100, 10 ** 17 + 3, GREATEST - 1, GREATEST):
                self.assertEqual(share(lore, many), as_pair(slow_share(sizes, many)))
            self.assertEqual(share(lore, 1), (1, 1))

    def test_fall_and_level(self):
        for lore in some_small(6):
            excesses = [e - j for j, e in slow_sizes(lore)]
            self.assertEqual((fall(lore), level(lore)), (min(excesses), excesses.count(min(excesses))))
            far = Fraction(*share(lore, GREATEST)) * GREATEST ** fall(lore)
            self.assertLess(abs(far - level(lore)), Fraction(1, 10 ** 20))

    def test_rows_and_free_signs(self):
        for many in range(1, 10):
            lore = free_signs(many)
            for n in (1, 2, 10, GREATEST):
                self.assertEqual(share(lore, n), (1, 1))
            self.assertEqual((fall(lore), level(lore), told_by(lore).lines), (0, 1, ()))
            all_one = Lore(lore.signs, tuple((A, (name,)) for name, _ in lore.signs))
            self.assertEqual(share(all_one, GREATEST), (1, GREATEST ** (many - 1)))
            self.assertEqual((fall(all_one), level(all_one)), (many - 1, 1))

    def test_a_ring_of_terms(self):
        lore = Lore((("a", 0), ("f", 1)), ((A, chain("f", 6, A)),))
        # The way of f from a is back at a for the first time after 1, 2, 3 or 6 steps.
        self.assertEqual((fall(lore), level(lore)), (1, 4))
        for n in (1, 2, 5, 6, 7, 1000, GREATEST):
            back = Fraction(0)
            for steps in (1, 2, 3, 6):
                unlike = Fraction(1)
                for k in range(steps):
                    unlike *= Fraction(n - k, n)
                back += unlike / n
            self.assertEqual(share(lore, n), as_pair(back))

    def test_kept_by_all_worlds(self):
        for lore in (BARE, Lore(WIDE, ()), Lore(WIDE, ((h(A, B), h(A, B)), (C, C), (f(g(A)), f(g(A)))))):
            for n in (1, 2, 3, GREATEST):
                self.assertEqual(share(lore, n), (1, 1))
            self.assertEqual((fall(lore), level(lore)), (0, 1))
            self.assertEqual(told_by(lore), Lore(lore.signs, ()))

    def test_lowest_terms(self):
        for lore in some_small(6):
            term = small_terms(lore.signs, 2, 100)[-1]
            for n in (2, 6, 360):
                for top, bottom in (share(lore, n), share_equal(lore, A, term, n), long_run(lore, A, term)):
                    self.assertEqual(gcd(top, bottom), 1)
                    self.assertTrue(0 < bottom and 0 <= top <= bottom)

    def test_told_by(self):
        fewer = 0
        for lore in some_small(9):
            found = told_by(lore)
            self.assertEqual(found.signs, lore.signs)
            self.assertTrue(all(is_term(lore, side) for line in found.lines for side in line))
            self.assertEqual(len(found.lines), fall(lore))
            self.assertIs(first_untold(found, lore), None)
            fewer += len(found.lines) < sum(len(row) - 1 for row in ways(lore))
        self.assertGreater(fewer, 3)
        self.assertEqual(told_by(FOUR).lines, ((A, B),))

    def test_fewer_lines_do_not_tell_it(self):
        for lore in (FOUR, TWO, Lore(FOUR.signs, ((f(A), A), (f(B), A)))):
            terms = small_terms(lore.signs, 2, 100)
            lines = list(product(terms, repeat=2))
            for row in product(lines, repeat=min(fall(lore) - 1, 1)):
                self.assertIsNot(first_untold(Lore(lore.signs, row), lore), None)

    def test_told_by_with_a_great_load(self):
        row = [A]
        for _ in range(7):
            row.append(h(row[-1], row[-1]))
        signs = (("a", 0), ("h", 2)) + tuple((sign, 2) for sign in "ijklmnopqr")
        lore = Lore(signs, tuple((row[-1], (sign, row[-1], row[-1])) for sign in "ijklmnopqr"))
        self.assertEqual((len(classes(lore)), fall(lore), load(lore)), (8, 10, 255 + 10 * 511))
        self.assertEqual(len(told_by(lore).lines), 10)
        self.assertIs(first_untold(told_by(lore), lore), None)

    def check_too_many(self, call):
        with self.assertRaises(TooMany) as caught:
            call()
        self.assertEqual(caught.exception.most, 9)

    def test_errors_in_their_order(self):
        great = free_signs(10)
        for call in (lambda: fall(great), lambda: level(great), lambda: told_by(great), lambda: share(great, 1)):
            self.check_too_many(call)
        self.check_too_many(lambda: share_equal(great, A, B, GREATEST))
        self.check_too_many(lambda: long_run(great, A, A))
        for thing in odd_things() + [0, -1, GREATEST + 1, 10 ** 39, "1", (1,), [1], True]:
            if type(thing) is not int or not 1 <= thing <= GREATEST:
                for lore in (TWO, great):
                    self.assertRaises(NoNumber, share, lore, thing)
                    self.assertRaises(NoNumber, share_equal, lore, A, B, thing)
                self.assertRaises(NoTerm, share_equal, great, A, f(A), thing)
        for thing in odd_things() + [C, f(C), ("f",), ["a"], ("f", ["a"]), nested(lambda part: ("f", part), 59)]:
            if not is_term(TWO, thing):
                for one, other in ((thing, A), (A, thing), (thing, thing)):
                    self.assertRaises(NoTerm, share_equal, TWO, one, other, 0)
                    self.assertRaises(NoTerm, share_equal, TWO, one, other, 2)
                    self.assertRaises(NoTerm, long_run, TWO, one, other)
            if not is_term(great, thing):
                self.assertRaises(NoTerm, long_run, great, A, thing)
                self.assertRaises(NoTerm, long_run, great, thing, A)

    def test_too_many_with_the_line(self):
        lore = Lore(LOOP.signs, ((chain("f", 6, A), chain("f", 6, A)),))
        eighth = chain("f", 8, A)
        self.assertEqual((share_equal(lore, eighth, A, 1), long_run(lore, eighth, eighth)), ((1, 1), (1, 1)))
        # Terms that stand in no line count, too, if the line would tell them; also if both are one.
        ninth = chain("f", 9, A)
        for one, other in ((ninth, ninth), (A, chain("f", 10, A)), (chain("f", 29, A), f(A))):
            self.check_too_many(lambda: share_equal(lore, one, other, 3))
            self.check_too_many(lambda: long_run(lore, one, other))
        self.assertEqual(long_run(lore, A, ninth), (0, 1))
        # With the line there are nine classes, of the lore alone there are ten.
        self.assertEqual(len(classes(with_line(free_signs(10), (A, B)))), 9)
        self.check_too_many(lambda: share_equal(free_signs(10), A, B, 2))
        self.check_too_many(lambda: long_run(free_signs(10), A, B))

    def test_shares_of_two_terms_world_by_world(self):
        for many in (1, 2, 3):
            for lore in lores_with_few_worlds(300, many)[::2]:
                terms = small_terms(lore.signs, 3, 8)[:5]
                worlds = [tables for _, tables in all_worlds(lore.signs, many) if kept_by(lore, tables)]
                for one, other in product(terms, repeat=2):
                    if len(classes(with_line(lore, (one, other)))) > 9:
                        continue
                    equal = sum(value_in(tables, one) == value_in(tables, other) for tables in worlds)
                    expected = as_pair(Fraction(equal, len(worlds)))
                    self.assertEqual(share_equal(lore, one, other, many), expected, (lore.lines, one, other))

    def test_two_signs_that_nothing_binds(self):
        for lore in (BARE, Lore(FOUR.signs, ((f(A), A), (g(f(A)), g(A)))), Lore(FOUR.signs, ((B, B), (g(B), g(B))))):
            for n in (1, 2, 7, GREATEST):
                self.assertEqual(share_equal(lore, A, B, n), (1, n))
            self.assertEqual(long_run(lore, A, B), (0, 1))
            self.assertEqual((share_equal(lore, f(B), f(B), 7), long_run(lore, f(B), f(B))), ((1, 1), (1, 1)))

    def test_long_runs(self):
        # If f takes a and b to one, they are one or f brings them together: n / n ** 2 of each.
        lore = Lore(TWO.signs, ((f(A), f(B)),))
        self.assertEqual(long_run(lore, A, B), (1, 2))
        self.assertEqual(share_equal(lore, A, B, 2), (2, 3))
        # By both, f and g, they are one nearly always.
        self.assertEqual(long_run(FOUR, A, B), (1, 1))
        self.assertEqual(long_run(REST, A, B), (1, 1))
        self.assertEqual(long_run(TWO, A, B), (1, 2))
        for lore in some_small(5)[::2]:
            terms = small_terms(lore.signs, 3, 8)[:5]
            for one, other in product(terms, repeat=2):
                if len(classes(with_line(lore, (one, other)))) <= 7:
                    run = Fraction(*long_run(lore, one, other))
                    far = Fraction(*share_equal(lore, one, other, GREATEST))
                    self.assertLess(abs(run - far), Fraction(1, 10 ** 20))
                    self.assertEqual(as_pair(run), long_run(lore, one, other))

    def test_worlds_of_the_package(self):
        kept = [keeps(TWO, world) for world in all_worlds(TWO.signs, 2)]
        self.assertEqual(Fraction(*share(TWO, 2)), Fraction(sum(kept), len(kept)))

    def test_equal_calls_give_equal_answers(self):
        lore = Lore(TWO.signs, TWO.lines)
        first = (share(lore, 2), fall(lore), level(lore), told_by(lore), share_equal(lore, A, B, 2), long_run(lore, A, B))
        share(FOUR, 3)
        self.assertEqual(first, (share(lore, 2), fall(lore), level(lore), told_by(lore), share_equal(lore, A, B, 2),
                                 long_run(lore, A, B)))
        self.assertEqual(first[:3], ((3, 8), 2, 2))
        self.assertEqual(lore, TWO)


if __name__ == "__main__":
    unittest.main()

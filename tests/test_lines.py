"""Promise 9.1: lines that are told by others, load, gain, and the fewest lines."""

import unittest
from itertools import combinations, product
from random import Random

from neatbooks.books import book
from neatbooks.changing import with_line, without
from neatbooks.errors import NoLine, NoTerm, OtherSigns, TooMany
from neatbooks.hall import classes, ways, worth
from neatbooks.lines import alike, first_untold, gain, is_least, load, shortest, spare, tells, thinned
from neatbooks.lores import Lore
from tests.samples import A, B, BARE, C, FOUR, LOOP, ONE, REST, TWICE, TWO, WIDE, are_equal, chain, f, g, h, how_great
from tests.samples import odd_things, picks_of, sixty_lines, small_lores, some_lores, some_term


def slow_spare(lore, lines):
    """The numbers of those of some lines that the others tell."""
    return [k for k in range(len(lines)) if are_equal(Lore(lore.signs, lines[:k] + lines[k + 1:]), *lines[k])]


def slow_load(lore):
    """The load: the least terms are found by making terms of the least ones that are known, again and again."""
    rows = ways(lore)
    least = {}

    def made(sign, parts):
        return (sign,) + tuple(least[part] for part in parts)

    for _ in range(len(rows) + 1):
        for number, row in enumerate(rows):
            terms = [made(sign, parts) for sign, parts in row if all(part in least for part in parts)]
            if terms:
                least[number] = min(terms, key=lambda term: (how_great(term), term))
    return sum(how_great(made(*way)) for row in rows if len(row) > 1 for way in row)


def slow_shortest(lore, one, other):
    """The least of the shortest lots, found lot by lot."""
    for many in range(len(lore.lines) + 1):
        for lot in combinations(range(len(lore.lines)), many):
            if are_equal(Lore(lore.signs, tuple(lore.lines[k] for k in lot)), one, other):
                return lot
    return None


def with_spare_lines(lore):
    """A lore with lines told twice, turned about, and following from others."""
    further = tuple((other, one) for one, other in lore.lines) + lore.lines
    for one, other in lore.lines:
        for sign, places in lore.signs:
            if places == 1:
                further += (((sign, one), (sign, other)),)
    return Lore(lore.signs, (lore.lines + further)[:24])


FULL = Lore(WIDE, tuple((chain("f", k, A), chain("f", k + 2, A)) for k in range(24)))


class Told(unittest.TestCase):
    def test_by_hand(self):
        self.assertIs(tells(REST, FOUR), False)
        self.assertIs(tells(ONE, FOUR), True)
        self.assertIs(tells(FOUR, ONE), False)
        self.assertEqual(first_untold(FOUR, REST), 0)
        self.assertEqual(first_untold(ONE, REST), 0)
        self.assertEqual(first_untold(REST, FOUR), 0)
        self.assertIs(first_untold(ONE, FOUR), None)
        self.assertIs(alike(LOOP, TWICE), True)
        self.assertIs(alike(TWICE, LOOP), True)
        self.assertIs(alike(ONE, FOUR), False)
        self.assertIs(alike(FOUR, ONE), False)
        self.assertIs(tells(BARE, BARE), True)
        self.assertIs(tells(BARE, ONE), False)
        self.assertIs(first_untold(ONE, BARE), None)

    def test_line_by_line(self):
        lores = [lore for lore in some_lores(120) if lore.signs == WIDE]
        for one, other in product(lores[:14], lores[:14]):
            both = Lore(one.signs, (one.lines + other.lines)[:6])
            for left, right in ((one, other), (both, other), (other, both)):
                untold = [k for k, line in enumerate(right.lines) if not are_equal(left, *line)]
                self.assertEqual(first_untold(left, right), untold[0] if untold else None)
                self.assertIs(tells(left, right), not untold)
                back = all(are_equal(right, *line) for line in left.lines)
                self.assertIs(alike(left, right), back and not untold)

    def test_other_signs(self):
        more = Lore(TWO.signs + (("g", 1),), TWO.lines)
        unlike = Lore((("a", 0), ("b", 0), ("f", 2)), ())
        for other in (more, unlike, LOOP, Lore((("a", 0), ("b", 0), ("g", 1)), ())):
            for call in (tells, alike, first_untold):
                self.assertRaises(OtherSigns, call, TWO, other)
                self.assertRaises(OtherSigns, call, other, TWO)


class Spare(unittest.TestCase):
    def test_by_hand(self):
        self.assertEqual(spare(TWICE), ())
        lore = Lore(FOUR.signs, ((A, B), (f(A), f(B)), (B, A), (A, A)))
        self.assertEqual(spare(lore), (0, 1, 2, 3))
        self.assertEqual(thinned(lore), Lore(FOUR.signs, ((B, A),)))
        self.assertEqual(thinned(Lore(LOOP.signs, ((A, A),))), Lore(LOOP.signs, ()))
        self.assertEqual(thinned(TWICE), TWICE)
        self.assertEqual((spare(BARE), thinned(BARE)), ((), BARE))

    def test_one_by_one(self):
        lores = [with_spare_lines(lore) for lore in small_lores(60, 6, 60)] + some_lores(60, 6)
        for lore in lores:
            found = spare(lore)
            self.assertEqual(found, tuple(slow_spare(lore, lore.lines)))
            lines = lore.lines
            while slow_spare(lore, lines):
                k = slow_spare(lore, lines)[0]
                lines = lines[:k] + lines[k + 1:]
            self.assertEqual(thinned(lore), Lore(lore.signs, lines))
            self.assertTrue(alike(thinned(lore), lore))

    def test_twenty_four_lines(self):
        self.assertEqual(spare(FULL), tuple(range(1, 24)))
        self.assertEqual(thinned(FULL), Lore(WIDE, FULL.lines[:1]))
        turned = Lore(WIDE, ((A, B), (B, A)) * 12)
        self.assertEqual(spare(turned), tuple(range(24)))
        self.assertEqual(thinned(turned), Lore(WIDE, ((B, A),)))

    def test_the_lore_is_not_changed(self):
        lore = Lore(TWO.signs, TWO.lines * 2)
        thinned(lore)
        self.assertEqual(lore.lines, TWO.lines * 2)


class Loads(unittest.TestCase):
    def test_by_hand(self):
        self.assertEqual((load(BARE), load(LOOP), load(TWO), load(FOUR), load(ONE)), (0, 3, 6, 8, 2))
        self.assertEqual(load(Lore(LOOP.signs, ((f(f(A)), f(f(A))),))), 0)
        self.assertEqual(load(Lore(LOOP.signs, ((f(f(A)), A),))), 4)

    def test_word_by_word(self):
        for lore in some_lores(200, 5) + [FULL, Lore(WIDE, sixty_lines())]:
            self.assertEqual(load(lore), slow_load(lore))

    def test_a_least_term_that_is_not_told(self):
        lore = Lore(WIDE, ((h(A, A), B), (g(h(A, A)), C)))
        self.assertNotIn(g(B), [term for row in classes(lore) for term in row])
        self.assertEqual(load(lore), 3 + 1 + 2 + 1)

    def test_great_loads(self):
        term = A
        for _ in range(7):
            term = h(term, term)
        lore = Lore(WIDE, ((term, term),))
        for _ in range(40):
            term = h(term, A)
        self.assertEqual(load(lore), 0)
        self.assertEqual(load(with_line(lore, (term, A))), 1 + 255 + 80)
        self.assertEqual(load(with_line(LOOP, (chain("f", 1500, A), A))), 3)
        deep = with_line(Lore(LOOP.signs, ()), (chain("f", 1500, A), A))
        self.assertEqual(load(deep), 1502)


class Gains(unittest.TestCase):
    def test_by_hand(self):
        self.assertEqual(gain(LOOP, (f(A), A)), 0)
        self.assertEqual(gain(BARE, (A, B)), 1)
        self.assertEqual(gain(FOUR, (A, B)), -1)
        self.assertEqual(gain(TWICE, (A, A)), 0)

    def test_by_the_worth(self):
        random = Random(9)
        seen = {}
        for lore in some_lores(150, 5):
            line = (some_term(random, lore.signs, 3), some_term(random, lore.signs, 3))
            longer = with_line(lore, line)
            rise = sum(map(len, ways(longer))) - len(classes(longer)) - sum(map(len, ways(lore))) + len(classes(lore))
            self.assertEqual(gain(lore, line), rise)
            self.assertLessEqual(rise, 1)
            seen[rise] = True
        self.assertTrue(seen[1] and seen[0])

    def test_behind_twenty_four_lines(self):
        self.assertEqual(gain(FULL, (A, f(A))), 0)
        self.assertEqual(gain(FULL, (B, C)), 1)

    def test_no_line(self):
        wrong = [(A,), (A, A, A), [A, A], (A, C), (A, "a"), ("a", "a"), (A, ["a"]), {0: A, 1: A}, ((A, A),), A]
        for thing in wrong + odd_things() + [(A, thing) for thing in odd_things() if thing != A]:
            self.assertRaises(NoLine, gain, TWO, thing)


class Least(unittest.TestCase):
    def test_by_hand(self):
        self.assertIs(is_least(TWICE), False)
        for lore in (LOOP, TWO, FOUR, ONE, REST, BARE):
            self.assertIs(is_least(lore), True)
        self.assertIs(is_least(Lore(TWO.signs, ((A, B), (B, A)))), False)
        self.assertIs(is_least(Lore(TWO.signs, ((A, A),))), False)
        self.assertIs(is_least(FULL), False)

    def test_by_a_lore_with_fewer_lines(self):
        for lore in small_lores(60, 6, 120):
            fewer = Lore(lore.signs, book(lore, picks_of(lore)[0]))
            self.assertTrue(alike(lore, fewer))
            self.assertIs(is_least(fewer), True)
            self.assertEqual(len(fewer.lines), worth(lore))
            self.assertIs(is_least(lore), len(lore.lines) == len(fewer.lines))

    def test_that_there_is_none_with_fewer_lines(self):
        terms = [A, B, f(A), f(B), f(f(A)), f(f(B))]
        lines = [(one, other) for one, other in product(terms, terms) if one < other]
        for lore in (LOOP, TWO, Lore(TWO.signs, ((A, f(f(A))), (B, f(B))))):
            known = [line for line in lines if are_equal(lore, *line)]
            for lot in combinations(known, len(lore.lines) - 1):
                self.assertIs(alike(Lore(lore.signs, lot), lore), False)
            self.assertIs(is_least(lore), True)


class Shortest(unittest.TestCase):
    def test_by_hand(self):
        lore = Lore(WIDE, ((A, f(A)), (B, C), (A, B), (f(A), C), (A, C), (B, A)))
        self.assertEqual(shortest(lore, A, C), (4,))
        self.assertEqual(shortest(lore, A, B), (2,))
        self.assertEqual(shortest(lore, B, f(A)), (0, 2))
        self.assertEqual(shortest(lore, h(A, B), h(C, A)), (1, 2))
        self.assertEqual(shortest(lore, A, A), ())
        self.assertEqual(shortest(lore, h(B, C), h(B, C)), ())
        self.assertIs(shortest(lore, g(A), A), None)
        self.assertEqual(shortest(TWICE, A, f(A)), (0, 1))
        self.assertEqual(shortest(BARE, f(A), f(A)), ())
        self.assertIs(shortest(BARE, f(A), f(B)), None)

    def test_lot_by_lot(self):
        random = Random(14)
        longest = 0
        for lore in [with_spare_lines(lore) for lore in small_lores(60, 6, 40)] + some_lores(80, 6):
            lore = without(lore, tuple(range(6, len(lore.lines))))
            pairs = list(lore.lines) + [(some_term(random, lore.signs, 3), some_term(random, lore.signs, 3))]
            for one, other in pairs[:3] + pairs[-1:]:
                found = shortest(lore, one, other)
                self.assertEqual(found, slow_shortest(lore, one, other))
                longest = max(longest, len(found or ()))
        self.assertGreater(longest, 1)

    def test_many_lines_needed(self):
        names = "abcdefghijk"
        lines = tuple(((one,), (other,)) for one, other in zip(names, names[1:]))
        lore = Lore(tuple((name, 0) for name in names) + (("z", 1),), lines)
        self.assertEqual(shortest(lore, A, ("k",)), tuple(range(10)))
        self.assertEqual(shortest(lore, ("z", C), ("z", ("h",))), tuple(range(2, 7)))
        lore = with_line(with_line(lore, (("e",), A)), (("k",), ("e",)))
        self.assertEqual(shortest(lore, A, ("k",)), (10, 11))
        self.assertEqual(shortest(lore, A, ("d",)), (3, 10))
        self.assertEqual(shortest(lore, A, C), (0, 1))
        self.assertEqual(shortest(lore, ("b",), ("i",)), (0, 8, 9, 10, 11))

    def test_twelve_lines_and_thirteen(self):
        lines = tuple((chain("f", k, A), chain("f", k + 1, A)) for k in range(12))
        lore = Lore(WIDE, lines[::-1])
        self.assertEqual(shortest(lore, A, chain("f", 12, A)), (11,))
        self.assertEqual(shortest(lore, chain("f", 3, A), chain("f", 5, A)), (8,))
        apart = Lore(WIDE, tuple((("a",), chain("g", k, C)) for k in range(1, 13)))
        self.assertEqual(shortest(apart, chain("g", 3, C), chain("g", 9, C)), (0, 1))
        self.assertEqual(shortest(apart, A, chain("g", 9, C)), (8,))
        self.assertIs(shortest(apart, A, C), None)
        thirteen = with_line(apart, (A, B))
        for one, other in ((A, B), (A, A), (B, C)):
            with self.assertRaises(TooMany) as caught:
                shortest(thirteen, one, other)
            self.assertEqual(caught.exception.most, 12)

    def test_no_term_ahead_of_too_many(self):
        for lore in (TWO, Lore(TWO.signs, ((A, A),) * 13)):
            for thing in odd_things() + [C, ("f",), ["a"], chain("f", 57, ["a"])]:
                if thing != A:
                    self.assertRaises(NoTerm, shortest, lore, thing, A)
                    self.assertRaises(NoTerm, shortest, lore, A, thing)

    def test_great_terms(self):
        self.assertEqual(shortest(TWICE, chain("f", 29, A), A), (0, 1))
        self.assertEqual(shortest(LOOP, chain("f", 1500, A), A), (0,))


class Kinds(unittest.TestCase):
    def test_kinds(self):
        for call in (tells, alike):
            self.assertIs(type(call(TWO, TWO)), bool)
        self.assertIs(type(is_least(TWO)), bool)
        self.assertIs(type(spare(TWO)), tuple)
        self.assertIs(type(thinned(TWO)), Lore)
        self.assertIs(type(load(TWO)), int)
        self.assertIs(type(gain(TWO, (A, A))), int)
        self.assertIs(type(shortest(TWO, A, f(B))), tuple)

    def test_equal_calls_give_equal_answers(self):
        lore = Lore(TWICE.signs, TWICE.lines)
        for _ in range(2):
            self.assertEqual((spare(lore), load(lore), is_least(lore), shortest(lore, A, f(A))), ((), 3, False, (0, 1)))
        self.assertEqual(lore, TWICE)


if __name__ == "__main__":
    unittest.main()

"""Promises 2.1 and 2.2: classes, ways, what is equal, worth and losses."""

import unittest
from itertools import permutations
from random import Random

from neatbooks.changing import joined, with_line
from neatbooks.errors import NoTerm
from neatbooks.hall import class_of, classes, equal, losses, ways, worth
from neatbooks.lores import Lore, told_terms
from tests.samples import A, B, BARE, C, FOUR, LOOP, ONE, REST, TWICE, TWO, WIDE, are_equal, blocks, chain, f, g, h
from tests.samples import odd_things, sixty_lines, some_lores, some_term, told


def slow_classes(lore):
    """The classes, found by going over all pairs of terms."""
    terms = told(lore.lines)
    marks = blocks(terms, lore.lines)
    found = {}
    for term in terms:
        found.setdefault(marks[term], []).append(term)
    return tuple(tuple(row) for row in found.values())


def slow_ways(lore):
    """The ways, from slow_classes."""
    rows = slow_classes(lore)
    numbers = {term: number for number, row in enumerate(rows) for term in row}
    return tuple(
        tuple(sorted({(term[0], tuple(numbers[part] for part in term[1:])) for term in row})) for row in rows)


class Classes(unittest.TestCase):
    def test_examples(self):
        self.assertEqual(classes(TWO), ((A, f(B)), (B, f(A))))
        self.assertEqual(ways(TWO), ((("a", ()), ("f", (1,))), (("b", ()), ("f", (0,)))))
        self.assertEqual(classes(LOOP), ((A, f(A)),))
        self.assertEqual(ways(LOOP), ((("a", ()), ("f", (0,))),))
        self.assertEqual(classes(FOUR), ((A,), (B,), (f(A), f(B)), (g(A), g(B))))
        self.assertEqual(ways(FOUR)[2], (("f", (0,)), ("f", (1,))))
        self.assertEqual(classes(ONE), ((A, B),))
        self.assertEqual(classes(TWICE), ((A, f(A), f(f(A)), f(f(f(A)))),))

    def test_without_lines(self):
        self.assertEqual((classes(BARE), ways(BARE), worth(BARE), losses(BARE)), ((), (), 0, ()))
        self.assertIs(class_of(BARE, A), None)
        self.assertIs(equal(BARE, f(A), f(A)), True)
        self.assertIs(equal(BARE, f(A), f(B)), False)

    def test_like_for_like_up_and_down(self):
        lore = Lore(WIDE, ((h(A, f(A)), B), (h(C, f(C)), g(B)), (A, C)))
        self.assertEqual(classes(lore)[1], (B, g(B), h(A, f(A)), h(C, f(C))))
        self.assertTrue(equal(lore, h(C, f(A)), g(g(B))))

    def test_many_lores(self):
        for lore in some_lores(150, 5, 4):
            self.assertEqual(classes(lore), slow_classes(lore))
            self.assertEqual(ways(lore), slow_ways(lore))

    def test_lines_told_twice_or_turned_about(self):
        for lore in some_lores(40):
            turned = Lore(lore.signs, tuple((other, one) for one, other in lore.lines[::-1]))
            self.assertEqual(classes(turned), classes(lore))
            self.assertEqual(ways(Lore(lore.signs, lore.lines + turned.lines)), ways(lore))

    def test_twenty_four_lines_and_sixty_terms(self):
        full = Lore(WIDE, tuple((chain("f", k, A), chain("f", k + 2, A)) for k in range(24)))
        self.assertEqual(len(classes(full)), 2)
        self.assertEqual(classes(full), slow_classes(full))
        sixty = Lore(WIDE, sixty_lines())
        self.assertEqual(len(told_terms(sixty)), 60)
        self.assertEqual(classes(sixty), slow_classes(sixty))
        self.assertEqual(sum(len(row) for row in classes(sixty)), 60)
        wide = Lore((("a", 0), ("h", 2)), tuple((chain("h", 0, A), A) for _ in range(24)))
        self.assertEqual(classes(wide), ((A,),))

    def test_more_than_a_caller_may_construct(self):
        lore = joined(Lore(WIDE, sixty_lines()), Lore((("x", 1), ("y", 0)), ((("x", ("y",)), ("y",)),) * 24))
        self.assertEqual(classes(lore), slow_classes(lore))


class Equal(unittest.TestCase):
    def test_examples(self):
        self.assertEqual(class_of(TWO, f(f(B))), 1)
        self.assertEqual(class_of(TWO, A), 0)
        self.assertEqual(class_of(TWO, chain("f", 29, A)), 1)
        self.assertIs(class_of(FOUR, f(f(A))), None)
        self.assertTrue(equal(TWO, f(f(A)), A))
        self.assertFalse(equal(TWO, A, B))
        self.assertTrue(equal(LOOP, A, chain("f", 29, A)))
        self.assertTrue(equal(FOUR, g(f(A)), g(f(B))))
        self.assertFalse(equal(FOUR, g(f(A)), f(g(B))))

    def test_equal_gives_flags_and_class_of_integers(self):
        self.assertIs(equal(TWO, A, f(B)), True)
        self.assertIs(equal(TWO, A, f(A)), False)
        self.assertIs(type(class_of(TWO, B)), int)

    def test_the_class_of_each_told_term(self):
        for lore in some_lores(60):
            for number, row in enumerate(classes(lore)):
                for term in row:
                    self.assertEqual(class_of(lore, term), number)

    def test_many_terms(self):
        random = Random(3)
        for lore in some_lores(60):
            least = [row[0] for row in classes(lore)]
            for _ in range(6):
                one = some_term(random, lore.signs, 4)
                other = some_term(random, lore.signs, 4)
                self.assertIs(equal(lore, one, other), are_equal(lore, one, other))
                self.assertIs(equal(lore, other, one), are_equal(lore, one, other))
                self.assertIs(equal(lore, one, one), True)
                spots = [number for number, term in enumerate(least) if are_equal(lore, one, term)]
                self.assertEqual(class_of(lore, one), spots[0] if spots else None)

    def test_terms_with_parts_of_no_class(self):
        lore = Lore(WIDE, ((h(A, A), A),))
        self.assertIs(class_of(lore, h(A, B)), None)
        self.assertIs(class_of(lore, h(B, h(A, A))), None)
        self.assertTrue(equal(lore, h(B, h(A, A)), h(B, A)))
        self.assertFalse(equal(lore, h(B, C), h(C, B)))

    def test_no_term(self):
        for thing in odd_things() + [("x",), ("f",), ["a"], f(("x",)), chain("f", 57, ["a"])]:
            if thing != A:
                for call in (lambda: class_of(TWO, thing), lambda: equal(TWO, thing, A), lambda: equal(TWO, A, thing)):
                    self.assertRaises(NoTerm, call)


class Worth(unittest.TestCase):
    def test_examples(self):
        self.assertEqual((worth(TWO), worth(TWICE), losses(TWICE)), (2, 1, (0, 1)))
        self.assertEqual((worth(FOUR), losses(FOUR)), (2, (0, 0)))
        self.assertEqual((worth(ONE), worth(REST), worth(LOOP)), (1, 3, 1))
        self.assertEqual(losses(Lore(TWO.signs, ((A, A), (A, B), (B, A)))), (1, 0, 1))

    def test_by_their_words(self):
        for lore in some_lores(60, 6):
            rises = [sum(map(len, ways(part))) - len(classes(part)) for part in prefixes(lore)]
            self.assertEqual(worth(lore), rises[-1])
            found = losses(lore)
            self.assertEqual(found, tuple(1 - rises[k + 1] + rises[k] for k in range(len(lore.lines))))
            self.assertTrue(all(loss >= 0 for loss in found))
            self.assertEqual(sum(found), len(lore.lines) - worth(lore))

    def test_as_many_losses_in_each_order(self):
        for lore in some_lores(20, 4):
            sums = {sum(losses(Lore(lore.signs, lines))) for lines in permutations(lore.lines)}
            self.assertEqual(len(sums), 1)

    def test_a_line_may_lose_more_than_one(self):
        lore = Lore(FOUR.signs, ((f(A), f(B)), (g(A), g(B)), (A, B)))
        self.assertEqual((worth(lore), losses(lore)), (1, (0, 0, 2)))

    def test_nothing_is_changed(self):
        lore = Lore(TWICE.signs, TWICE.lines)
        for _ in range(2):
            self.assertEqual((classes(lore), ways(lore), losses(lore)), (classes(TWICE), ways(TWICE), losses(TWICE)))
        self.assertEqual(lore, TWICE)

    def test_great_terms_need_no_recursion(self):
        lore = with_line(LOOP, (chain("f", 1500, A), A))
        self.assertEqual(worth(lore), 1)
        self.assertTrue(equal(LOOP, chain("f", 5000, A), A))
        self.assertFalse(equal(FOUR, chain("f", 5000, A), A))


def prefixes(lore):
    """The lores of the first lines of a lore, from none to all."""
    return [Lore(lore.signs, lore.lines[:end]) for end in range(len(lore.lines) + 1)]


if __name__ == "__main__":
    unittest.main()

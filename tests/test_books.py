"""Promises 4.1 and 4.2: neat books, their faults, answers, books and picks."""

import unittest
from itertools import combinations, permutations, product

from neatbooks.books import answers, book, fault, is_neat, pick_of
from neatbooks.changing import with_line
from neatbooks.errors import NoBook, NoPick, TooMany
from neatbooks.hall import worth
from neatbooks.lores import Lore, told_terms
from neatbooks.making import least_costs, made_order
from tests.samples import A, B, BARE, C, FOUR, LOOP, ONE, REST, TWO, WIDE, chain, changed_books, doubled_eleven_times
from tests.samples import f, g, greatest_pick, just_two_thousand, nested, no_books, no_picks, picks_of
from tests.samples import sixty_lines, slow_answers, slow_book, slow_fault, small_lores


def lores_with_picks(most):
    """The pairs of small lores and their picks, at most so many of each lore."""
    return [(lore, pick) for lore in small_lores() for pick in picks_of(lore)[:most]]


class Made(unittest.TestCase):
    def check_too_many(self, call):
        with self.assertRaises(TooMany) as caught:
            call()
        self.assertEqual(caught.exception.most, 2000)

    def test_examples(self):
        self.assertEqual(book(TWO, (0, 1)), ((B, f(A)), (f(f(A)), A)))
        self.assertEqual(answers(TWO, (0, 1)), (A, f(A)))
        self.assertEqual(answers(TWO, (0, 0)), (A, B))
        self.assertEqual(book(TWO, (0, 0)), ((f(A), B), (f(B), A)))
        self.assertEqual(answers(TWO, (1, 0)), (f(B), B))
        self.assertEqual(book(TWO, (1, 0)), ((A, f(B)), (f(f(B)), B)))
        self.assertEqual(book(FOUR, (0, 0, 1, 0)), ((f(A), f(B)), (g(B), g(A))))

    def test_word_by_word(self):
        for lore, pick in lores_with_picks(60):
            self.assertEqual(answers(lore, pick), slow_answers(lore, pick))
            rules = book(lore, pick)
            self.assertEqual(rules, slow_book(lore, pick))
            self.assertEqual(len(rules), worth(lore))
            self.assertIs(is_neat(lore, rules), True)
            self.assertIs(fault(lore, rules), None)
            self.assertIs(slow_fault(lore, rules), None)

    def test_without_classes(self):
        self.assertEqual((answers(BARE, ()), book(BARE, ()), pick_of(BARE, ())), ((), (), ()))
        self.assertIs(fault(BARE, ()), None)
        self.assertEqual(fault(BARE, ((A, B),)), ("lies", 0))

    def test_sixty_told_terms(self):
        lore = Lore(WIDE, sixty_lines())
        for pick in picks_of(lore):
            self.assertEqual(book(lore, pick), slow_book(lore, pick))
            self.assertEqual(pick_of(lore, book(lore, pick)), pick)

    def test_two_thousand_signs(self):
        lore = just_two_thousand()
        pick = greatest_pick(lore)
        self.assertEqual(answers(lore, pick), slow_answers(lore, pick))
        self.assertEqual(book(lore, pick), slow_book(lore, pick))
        self.assertEqual(pick_of(lore, book(lore, pick)), pick)
        lore = just_two_thousand(1)
        self.check_too_many(lambda: answers(lore, greatest_pick(lore)))
        self.check_too_many(lambda: book(lore, greatest_pick(lore)))
        self.assertEqual(book(lore, (0,) * len(pick)), slow_book(lore, (0,) * len(pick)))

    def test_doubled_eleven_times(self):
        lore = doubled_eleven_times()
        pick = greatest_pick(lore)
        self.check_too_many(lambda: answers(lore, pick))
        self.check_too_many(lambda: book(lore, pick))
        for thing in no_picks() + [pick[:-1], pick + (0,), list(pick), (-1,) + pick[1:], (False,) + pick[1:]]:
            self.assertRaises(NoPick, answers, lore, thing)
            self.assertRaises(NoPick, book, lore, thing)

    def test_no_pick(self):
        for thing in no_picks():
            self.assertRaises(NoPick, answers, TWO, thing)
            self.assertRaises(NoPick, book, TWO, thing)

    def test_equal_calls_give_equal_answers(self):
        lore = Lore(TWO.signs, TWO.lines)
        pick = (0, 1)
        for _ in range(2):
            self.assertEqual(book(lore, pick), ((B, f(A)), (f(f(A)), A)))
            self.assertEqual(answers(lore, pick), (A, f(A)))
        self.assertEqual((lore, pick), (TWO, (0, 1)))

    def test_deep_terms(self):
        lore = with_line(LOOP, (chain("f", 1200, A), f(A)))
        self.assertEqual(book(lore, (0,)), ((f(A), A),))
        deep = with_line(Lore(WIDE, ()), (chain("g", 61, A), chain("f", 61, B)))
        self.check_too_many(lambda: answers(deep, (0,) * 123))


class Faults(unittest.TestCase):
    def test_examples(self):
        self.assertEqual(fault(TWO, ((B, f(A)),)), ("misses", 1))
        self.assertEqual(fault(TWO, ((f(B), A),)), ("misses", 0))
        self.assertEqual(fault(TWO, ()), ("misses", 0))
        self.assertIs(is_neat(TWO, ((f(f(A)), A), (B, f(A)))), True)
        self.assertIs(is_neat(TWO, ()), False)

    def test_form(self):
        for thing in no_books(TWO, book(TWO, (0, 1))):
            self.assertEqual(fault(TWO, thing), ("form",), repr(thing)[:100])
            self.assertIs(is_neat(TWO, thing), False)

    def test_lies(self):
        self.assertEqual(fault(TWO, ((f(A), B), (A, B), (f(A), B))), ("lies", 1))
        self.assertEqual(fault(TWO, ((f(f(A)), B),)), ("lies", 0))
        self.assertEqual(fault(FOUR, ((f(A), f(B)), (g(A), g(B)), (A, B))), ("lies", 2))

    def test_twice(self):
        self.assertEqual(fault(TWO, ((f(A), B), (f(B), A), (f(A), B))), ("twice", 2))
        self.assertEqual(fault(TWO, ((f(A), B), (f(A), f(f(f(A)))), (f(B), A))), ("twice", 1))
        self.assertEqual(fault(TWO, ((A, A), (B, B), (B, B), (A, A))), ("twice", 2))

    def test_worked(self):
        self.assertEqual(fault(TWO, ((A, A),)), ("worked", 0))
        self.assertEqual(fault(TWO, ((f(A), B), (B, f(A)))), ("worked", 0))
        self.assertEqual(fault(TWO, ((f(B), A), (f(f(f(B))), A))), ("worked", 1))
        self.assertEqual(fault(TWO, ((A, f(f(A))),)), ("worked", 0))
        self.assertEqual(fault(TWO, ((f(f(A)), A), (B, f(A)), (f(f(f(A))), f(A)))), ("worked", 2))
        self.assertEqual(fault(TWO, ((f(B), A), (f(f(A)), f(B)))), ("worked", 1))

    def test_misses(self):
        lore = Lore(FOUR.signs, ((A, A), (f(A), B), (B, f(A)), (g(A), f(f(A)))))
        self.assertEqual(fault(lore, ()), ("misses", 1))
        self.assertEqual(fault(lore, ((f(A), B),)), ("misses", 3))
        self.assertEqual(fault(lore, ((f(B), g(A)),)), ("misses", 1))
        self.assertIs(fault(lore, ((f(B), g(A)), (f(A), B))), None)

    def test_books_with_one_thing_changed(self):
        seen = {}
        for lore, pick in lores_with_picks(2)[:110]:
            for thing in changed_books(lore, book(lore, pick)):
                found = fault(lore, thing)
                self.assertEqual(found, slow_fault(lore, thing), (lore.lines, thing))
                self.assertIs(is_neat(lore, thing), found is None)
                seen.setdefault(found and found[0], {})[found and found[1]] = True
        for word in ("lies", "twice", "worked", "misses"):
            self.assertGreater(len(seen[word]), 2)
        self.assertIn(None, seen)

    def test_just_the_books_of_the_picks_are_neat(self):
        for lore in (LOOP, TWO, FOUR, ONE, REST):
            books = {frozenset(book(lore, pick)) for pick in picks_of(lore)}
            sides = sorted({side for rules in books for rule in rules for side in rule} | set(told_terms(lore)))
            rules = [rule for rule in product(sides, sides) if slow_fault(lore, (rule,)) in [None, ("misses", 0), (
                "misses", 1), ("misses", 2)]]
            for many in range(worth(lore) + 2):
                for thing in combinations(rules, many):
                    self.assertIs(is_neat(lore, thing), frozenset(thing) in books)

    def test_lists_and_flags_for_what_they_are_not(self):
        rules = book(TWO, (0, 1))
        for thing in (list(rules), tuple(list(rule) for rule in rules), tuple((list(one), other) for one, other in rules)):
            self.assertEqual(fault(TWO, thing), ("form",))

    def test_nested_sixty_deep(self):
        self.assertIs(fault(LOOP, ((f(A), A),)), None)
        self.assertEqual(fault(LOOP, ((chain("f", 57, A), A),)), ("misses", 0))
        self.assertEqual(fault(LOOP, ((f(A), A), (chain("f", 57, A), A))), ("worked", 1))
        for make in (lambda part: (part,), lambda part: ("f", part), lambda part: [part], lambda part: {0: part}):
            for many in (57, 58, 59):
                self.assertEqual(fault(LOOP, nested(make, many)), ("form",))
                self.assertEqual(fault(LOOP, ((nested(make, 57), A),)), ("form",))

    def test_many_rules(self):
        thing = tuple((chain("f", k, A), A) for k in range(1, 60))
        self.assertEqual(fault(LOOP, thing), ("worked", 1))
        self.assertEqual(fault(LOOP, ((f(A), A),) * 1000), ("twice", 1))

    def test_great_terms_need_no_recursion(self):
        deep = chain("f", 3000, A)
        self.assertEqual(fault(LOOP, ((deep, A),)), ("misses", 0))
        self.assertEqual(fault(LOOP, ((A, deep),)), ("worked", 0))


class PickOf(unittest.TestCase):
    def test_there_and_back(self):
        for lore, pick in lores_with_picks(20):
            rules = book(lore, pick)
            for row in list(permutations(rules))[:24]:
                self.assertEqual(pick_of(lore, row), pick)

    def test_kinds(self):
        self.assertIs(type(pick_of(TWO, book(TWO, (0, 1)))), tuple)
        self.assertEqual(list(map(type, pick_of(TWO, book(TWO, (0, 1))))), [int, int])

    def test_no_book(self):
        for thing in no_books(TWO, book(TWO, (0, 1))):
            self.assertRaises(NoBook, pick_of, TWO, thing)
        for thing in (
            (), ((A, B), (f(A), B)), ((f(A), B), (f(B), A), (f(A), B)), ((f(A), B), (B, f(A))), ((B, f(A)),),
            ((A, C),), ((A, A),),
        ):
            self.assertRaises(NoBook, pick_of, TWO, thing)
        for lore, pick in lores_with_picks(1)[:60]:
            for thing in changed_books(lore, book(lore, pick)):
                if slow_fault(lore, thing) is not None:
                    self.assertRaises(NoBook, pick_of, lore, thing)

    def test_nothing_is_changed(self):
        rules = [[f(A), B], [f(B), A]]
        thing = (tuple(rules[0]), tuple(rules[1]))
        pick_of(TWO, thing)
        self.assertEqual(thing, ((f(A), B), (f(B), A)))


class Helpers(unittest.TestCase):
    def test_made_order(self):
        self.assertEqual(made_order([(1, 1), (), (0, 1)]), [1, 0, 2])
        self.assertEqual(made_order([(1,), (0,), (), (2, 0)]), [2])

    def test_least_costs(self):
        rows = [("a", 9, (), 0), ("b", 1, ("a",), 0), ("a", 2, ("c", "c"), 0), ("c", 3, (), 0), ("d", 1, ("d",), 0)]
        self.assertEqual(least_costs(rows), {"c": (3, 3), "a": (8, 2), "b": (9, 1)})


if __name__ == "__main__":
    unittest.main()

"""Promises 5.1 and 5.2: steps, runs and wrong places."""

import unittest
from random import Random

from neatbooks.books import book
from neatbooks.changing import with_line
from neatbooks.errors import BadStep, NoBook, NoPick, NoPlace, NoTerm
from neatbooks.hall import class_of, ways
from neatbooks.lores import Lore
from neatbooks.runs import answer, run, stepped, steps, wrong_places
from tests.samples import A, B, BARE, C, FOUR, LOOP, TWO, WIDE, chain, f, g, greatest_pick, h, just_two_thousand, nested
from tests.samples import no_books, no_picks, odd_things, picks_of, put, sixty_lines, slow_answer, small_lores, some_term
from tests.samples import spots_of

RULES = ((B, f(A)), (f(f(A)), A))


def slow_steps(rules, term):
    """The steps, found place by place."""
    return sorted((place, k) for place, part in spots_of(term) for k, (left, _) in enumerate(rules) if left == part)


def slow_wrong_places(lore, pick, term):
    """The wrong places, found place by place."""
    found = []
    for place, part in spots_of(term):
        number = class_of(lore, part)
        if number is not None:
            way = (part[0], tuple(class_of(lore, below) for below in part[1:]))
            if way != ways(lore)[number][pick[number]]:
                found.append(place)
    return tuple(sorted(found))


def samples(many, most=3):
    """Small lores, some picks of each, and some terms."""
    random = Random(11)
    for lore in small_lores()[:many]:
        for pick in picks_of(lore)[:most]:
            for _ in range(4):
                yield lore, pick, some_term(random, lore.signs, 5)
            for line in lore.lines[:2]:
                yield lore, pick, line[0]


def no_terms():
    """What is no term of TWO."""
    return [thing for thing in odd_things() if thing != A] + [C, ("f",), f(C), ["a"], chain("f", 57, ["a"])]


class Choosers:
    """Choosers, each of which keeps what it was given."""

    def __init__(self):
        self.random = Random(4)
        self.given = []

    def keep(self, rows, at):
        self.given.append(list(rows))
        return rows[at]

    def first(self, rows):
        return self.keep(rows, 0)

    def last(self, rows):
        return self.keep(rows, -1)

    def some(self, rows):
        return self.keep(rows, self.random.randrange(len(rows)))

    def clearing(self, rows):
        step = self.keep(rows, 0)
        rows.clear()
        return step

    def spoiling(self, rows):
        step = self.keep(rows, -1)
        rows[:] = [((9, 9), 9)] * 3
        return step

    def all(self):
        return (self.first, self.last, self.some, self.clearing, self.spoiling)


class Steps(unittest.TestCase):
    def test_by_hand(self):
        self.assertEqual(steps(TWO, RULES, f(f(B))), [((0, 0), 0)])
        self.assertEqual(steps(TWO, RULES, f(f(A))), [((), 1)])
        self.assertEqual(steps(TWO, RULES, f(A)), [])
        self.assertEqual(stepped(TWO, RULES, f(f(B)), (0, 0)), f(f(f(A))))
        self.assertEqual(stepped(TWO, RULES, f(f(f(A))), (0,)), f(A))
        self.assertEqual(stepped(TWO, RULES, B, ()), f(A))
        self.assertEqual(answer(TWO, RULES, f(f(B))), f(A))
        self.assertEqual(run(TWO, RULES, f(f(B)), lambda rows: rows[0]), [f(f(B)), f(f(f(A))), f(A)])
        self.assertEqual(run(TWO, RULES, A, None), [A])

    def test_ascending(self):
        lore = Lore(WIDE, ((A, B), (f(A), C)))
        rules = ((B, A), (f(A), C))
        term = h(f(B), h(h(B, f(A)), f(A)))
        self.assertEqual(steps(lore, rules, term), [((0, 0), 0), ((1, 0, 0), 0), ((1, 0, 1), 1), ((1, 1), 1)])
        self.assertEqual(steps(lore, rules[::-1], term), [((0, 0), 1), ((1, 0, 0), 1), ((1, 0, 1), 0), ((1, 1), 0)])

    def test_step_by_step(self):
        for lore, pick, term in samples(120):
            rules = book(lore, pick)
            for row in (rules, rules[::-1]):
                found = steps(lore, row, term)
                self.assertEqual(found, slow_steps(row, term))
                self.assertIs(type(found), list)
                for place, k in found:
                    self.assertEqual(stepped(lore, row, term, place), put(term, place, row[k][1]))
                wrong = [place for place, _ in spots_of(term) if place not in [here for here, _ in found]]
                for place in wrong:
                    self.assertRaises(NoPlace, stepped, lore, row, term, place)
                self.assertEqual(answer(lore, row, term), slow_answer(row, term))

    def test_no_place(self):
        term = f(f(B))
        for thing in odd_things() + [
            (0,), (0, 0, 0), (0, False), (False, 0), (0, 1), (0, -1), (-1, 0), [0, 0], ("0", "0"), (0, None), ((0, 0),),
            (0, (0,)), {0: 0}, "00", b"\0\0", (0,) * 60, range(2), nested(lambda part: (0, part), 59),
        ]:
            if not (type(thing) is tuple and repr(thing) == "(0, 0)"):
                self.assertRaises(NoPlace, stepped, TWO, RULES, term, thing)
        self.assertEqual(stepped(TWO, RULES, term, (0, 0)), f(f(f(A))))
        for thing in odd_things():
            if thing != ():
                self.assertRaises(NoPlace, stepped, TWO, RULES, B, thing)
            self.assertRaises(NoPlace, stepped, TWO, RULES, A, thing)

    def test_errors_in_their_order(self):
        calls = (
            lambda rules, term: steps(TWO, rules, term), lambda rules, term: stepped(TWO, rules, term, None),
            lambda rules, term: answer(TWO, rules, term), lambda rules, term: run(TWO, rules, term, lambda rows: None),
        )
        for call in calls:
            for thing in no_books(TWO, RULES) + [(), RULES[:1], RULES + RULES[:1], ((A, B),)]:
                self.assertRaises(NoBook, call, thing, None)
            for thing in no_terms():
                self.assertRaises(NoTerm, call, RULES, thing)

    def test_without_rules(self):
        self.assertEqual((steps(BARE, (), f(A)), answer(BARE, (), f(A)), run(BARE, (), A, None)), ([], f(A), [A]))
        self.assertRaises(NoPlace, stepped, BARE, (), f(A), ())

    def test_new_each_time_and_nothing_changed(self):
        rules, term = RULES, f(f(B))
        one, other = steps(TWO, rules, term), steps(TWO, rules, term)
        self.assertIsNot(one, other)
        one.clear()
        self.assertEqual(steps(TWO, rules, term), other)
        one = run(TWO, rules, term, lambda rows: rows[0])
        one.clear()
        self.assertEqual(len(run(TWO, rules, term, lambda rows: rows[0])), 3)
        self.assertEqual((rules, term), (RULES, f(f(B))))


class Runs(unittest.TestCase):
    def test_each_chooser(self):
        longest = 0
        for lore, pick, term in samples(120):
            rules = book(lore, pick)
            choosers = Choosers()
            for chooser in choosers.all():
                choosers.given.clear()
                terms = run(lore, rules, term, chooser)
                self.assertEqual(terms[0], term)
                self.assertEqual(terms[-1], answer(lore, rules, term))
                self.assertEqual(choosers.given, [slow_steps(rules, part) for part in terms[:-1]])
                for one, other in zip(terms, terms[1:]):
                    self.assertIn(other, [stepped(lore, rules, one, place) for place, _ in steps(lore, rules, one)])
                self.assertEqual(len(terms) - 1, len(wrong_places(lore, pick, term)))
                longest = max(longest, len(terms))
        self.assertGreater(longest, 6)

    def test_the_chosen_one_is_taken(self):
        lore = Lore(WIDE, ((A, B),))
        terms = run(lore, ((B, A),), h(B, B), lambda rows: rows[-1])
        self.assertEqual(terms, [h(B, B), h(B, A), h(A, A)])
        terms = run(lore, ((B, A),), h(B, B), lambda rows: (rows[0][0], 0))
        self.assertEqual(terms, [h(B, B), h(A, B), h(A, A)])

    def test_a_new_list_each_time(self):
        kept = []

        def chooser(rows):
            kept.append(rows)
            return rows[0]

        run(Lore(WIDE, ((A, B),)), ((B, A),), h(B, h(B, B)), chooser)
        self.assertEqual(len({id(rows) for rows in kept}), 3)
        self.assertTrue(all(type(rows) is list for rows in kept))

    def check_bad(self, index, lore, rules, term, chooser):
        with self.assertRaises(BadStep) as caught:
            run(lore, rules, term, chooser)
        self.assertEqual(caught.exception.index, index)
        self.assertIs(type(caught.exception.index), int)

    def test_bad_steps(self):
        lore = Lore(WIDE, ((A, B), (f(A), C)))
        rules = ((B, A), (f(A), C))
        term = h(B, h(f(A), g(B)))
        wrong = [
            ((0,), 1), ((), 0), ((1,), 0), ((1, 0), 0), ((0, 0), 0), ((False,), 0), ((0,), False), ((True, 0), 1),
            ((1, False), 1), ((1, 0), True), [(0,), 0], ([0], 0), ((0,),), ((0,), 0, 0), (0,), 0, ((0,), "0"), ("0", 0),
            ((0,), None), (((0,), 0),), {(0,): 0}, ((-2,), 0), ((0,), -2), (0, (0,)), nested(lambda part: (part, 0), 59),
        ]
        for thing in wrong + odd_things():
            for index in range(4):
                def chooser(rows, left=[index]):
                    left[0] -= 1
                    return thing if left[0] < 0 else rows[0]

                self.check_bad(index, lore, rules, term, chooser) if index < 3 else None
        self.assertEqual(len(run(lore, rules, term, lambda rows: rows[0])), 4)

    def test_bad_behind_a_step_that_is_gone(self):
        lore = Lore(WIDE, ((A, B),))
        self.check_bad(1, lore, ((B, A),), h(B, B), lambda rows: ((0,), 0))

    def test_its_own_errors_go_on(self):
        def chooser(rows):
            raise KeyError("own")

        self.assertRaises(KeyError, run, TWO, RULES, f(f(B)), chooser)
        for error in (BadStep(7), NoTerm(), RuntimeError("own")):
            def raising(rows):
                raise error

            with self.assertRaises(type(error)) as caught:
                run(TWO, RULES, f(f(B)), raising)
            self.assertIs(caught.exception, error)

    def test_great_answers(self):
        lore = just_two_thousand()
        pick = greatest_pick(lore)
        rules = book(lore, pick)
        term = ("t", ("i",), ("t", ("i",), ("h",)))
        terms = run(lore, rules, term, lambda rows: rows[-1])
        self.assertEqual(len(terms), 1 + len(wrong_places(lore, pick, term)))
        self.assertEqual(terms[-1], slow_answer(rules, term))
        self.assertEqual(wrong_places(lore, pick, terms[-1]), ())

    def test_three_hundred_signs(self):
        lore = Lore(WIDE, ((A, B), (h(A, A), C)))
        term = B
        for _ in range(7):
            term = h(term, term)
        for pick in picks_of(lore):
            rules = book(lore, pick)
            for chooser in Choosers().all():
                self.assertEqual(len(run(lore, rules, term, chooser)) - 1, len(wrong_places(lore, pick, term)))

    def test_great_terms_need_no_recursion(self):
        deep = chain("f", 1500, A)
        rules = ((f(A), A),)
        self.assertEqual(answer(LOOP, rules, deep), A)
        self.assertEqual(steps(LOOP, rules, deep), [((0,) * 1499, 0)])
        self.assertEqual(len(run(LOOP, rules, deep, lambda rows: rows[0])), 1501)
        self.assertEqual(len(wrong_places(LOOP, (0,), deep)), 1500)


class WrongPlaces(unittest.TestCase):
    def test_examples(self):
        self.assertEqual(wrong_places(TWO, (0, 1), f(f(B))), ((0,), (0, 0)))
        self.assertEqual(wrong_places(TWO, (0, 0), f(f(B))), ((), (0,)))
        self.assertEqual(wrong_places(FOUR, (0, 0, 0, 1), g(f(B))), ((0,),))
        self.assertEqual(wrong_places(BARE, (), g(f(B))), ())

    def test_place_by_place(self):
        for lore, pick, term in samples(150):
            found = wrong_places(lore, pick, term)
            self.assertEqual(found, slow_wrong_places(lore, pick, term))
            self.assertIs(type(found), tuple)

    def test_sixty_told_terms(self):
        lore = Lore(WIDE, sixty_lines())
        for pick in picks_of(lore):
            for side in sixty_lines()[0]:
                term = h(side, B)
                self.assertEqual(wrong_places(lore, pick, term), slow_wrong_places(lore, pick, term))
                self.assertEqual(
                    len(run(lore, book(lore, pick), term, lambda rows: rows[0])) - 1, len(wrong_places(lore, pick, term)))

    def test_without_rules_too_many_for_a_book(self):
        lore = just_two_thousand(1)
        self.assertEqual(wrong_places(lore, greatest_pick(lore), ("b",)), ((),))

    def test_errors_in_their_order(self):
        for thing in no_picks():
            self.assertRaises(NoPick, wrong_places, TWO, thing, None)
        for thing in no_terms():
            self.assertRaises(NoTerm, wrong_places, TWO, (0, 1), thing)

    def test_with_more_lines_than_a_caller_may_construct(self):
        lore = with_line(TWO, (chain("f", 1300, A), A))
        self.assertEqual(len(wrong_places(lore, (0, 0), chain("f", 4, A))), 4)


if __name__ == "__main__":
    unittest.main()

"""Promise 11.1: what a lore tells about some of its signs alone."""

import unittest
from itertools import combinations, permutations
from random import Random

from neatbooks.changing import joined, with_line
from neatbooks.errors import NoLot, TooMany
from neatbooks.hall import classes, equal
from neatbooks.lines import alike, load
from neatbooks.lores import Lore, is_term
from neatbooks.some import about
from tests.samples import A, B, BARE, C, FOUR, LOOP, ONE, REST, TWICE, TWO, WIDE, are_equal, chain, f, g, h, marks_of
from tests.samples import odd_things, sixty_lines, sized, small_terms, some_lores, told, with_names

LORES = [LOOP, TWO, FOUR, ONE, REST, TWICE, BARE] + some_lores(90, 5, 3)


def lots_with_a_start(signs):
    """All lots of numbers of signs, one of these without places."""
    numbers = range(len(signs))
    lots = [lot for many in range(len(signs) + 1) for lot in combinations(numbers, many)]
    return [lot for lot in lots if any(signs[k][1] == 0 for k in lot)]


def lot_of(lore, names):
    """The lot of the numbers of the signs with these names."""
    return tuple(k for k, (sign, _) in enumerate(lore.signs) if sign in names)


class About(unittest.TestCase):
    def check(self, lore, lot, most=400):
        """Checks what is told about some signs by all of their small terms, and by those within the lines."""
        found = about(lore, lot)
        self.assertIs(type(found), Lore)
        self.assertEqual(found.signs, tuple(lore.signs[k] for k in lot))
        for line in found.lines:
            self.assertTrue(is_term(found, line[0]) and is_term(found, line[1]))
            self.assertTrue(are_equal(lore, *line), line)
        terms = small_terms(found.signs, 6, most)
        terms += [term for term in told(lore.lines) + told(found.lines) if is_term(found, term)]
        marks, found_marks = marks_of(lore, terms), marks_of(found, terms)
        pairs = set(zip(marks, found_marks))
        self.assertEqual((len(pairs), len(pairs)), (len(set(marks)), len(set(found_marks))), (lore.lines, lot))
        return found

    def test_all_lots_of_small_lores(self):
        lines = 0
        for lore in LORES:
            for lot in lots_with_a_start(lore.signs):
                lines += len(self.check(lore, lot, 120).lines)
        self.assertGreater(lines, 500)

    def test_by_hand(self):
        self.assertEqual(about(TWO, (0, 1)), Lore((("a", 0), ("b", 0)), ()))
        self.assertEqual(about(TWO, (0, 2)), Lore(LOOP.signs, ((A, f(f(A))),)))
        self.assertEqual(about(ONE, (0, 2)), Lore(LOOP.signs, ()))
        self.assertTrue(alike(about(FOUR, (0, 1, 3)), Lore((("a", 0), ("b", 0), ("g", 1)), ((g(A), g(B)),))))
        lore = Lore(WIDE, ((A, h(B, C)), (B, f(C)), (f(A), g(A))))
        found = about(lore, lot_of(lore, "cfgh"))
        self.assertTrue(alike(found, Lore(found.signs, ((f(h(f(C), C)), g(h(f(C), C))),))))
        self.assertEqual(about(lore, lot_of(lore, "cfh")).lines, ())

    def test_all_signs(self):
        for lore in LORES:
            self.assertTrue(alike(about(lore, tuple(range(len(lore.signs)))), lore))

    def test_left_out_one_by_one_and_at_once(self):
        for number, lore in enumerate(LORES[:40]):
            for lot in lots_with_a_start(lore.signs)[number % 3::3]:
                kept = [lore.signs[k] for k in lot]
                once = about(lore, lot)
                for order in list(permutations([pair for pair in lore.signs if pair not in kept]))[:6]:
                    found = lore
                    for pair in order:
                        found = about(found, tuple(k for k, other in enumerate(found.signs) if other != pair))
                    self.assertTrue(alike(found, once), (lore.lines, lot, order))

    def test_a_new_name_left_out_again(self):
        random = Random(7)
        for lore in LORES:
            terms = told(lore.lines) + [("f", A)] if ("f", 1) in lore.signs else told(lore.lines) + [A]
            named = with_line(joined(lore, Lore((("q", 0),), ())), (("q",), random.choice(terms)))
            self.assertTrue(alike(about(named, lot_of(named, [sign for sign, _ in lore.signs])), lore))

    def test_what_is_told_by_signs_that_are_left_out(self):
        row = [("x",), A, B, C, ("d",), ("e",)]
        signs = (("a", 0), ("b", 0), ("c", 0), ("d", 0), ("e", 0), ("f", 1), ("x", 0))
        lines = tuple((other, f(one)) for one, other in zip(row, row[1:]))
        lore = Lore(signs, lines + ((("e",), ("x",)),))
        found = about(lore, lot_of(lore, "fx"))
        self.assertEqual(found, Lore((("f", 1), ("x", 0)), ((("x",), chain("f", 5, ("x",))),)))

    def test_sixty_told_terms(self):
        lore = Lore(WIDE, sixty_lines())
        self.assertTrue(alike(about(lore, tuple(range(6))), lore))
        self.assertEqual(about(lore, lot_of(lore, "afg")).lines, ((chain("f", 29, A), chain("g", 29, A)),))
        self.assertEqual(about(lore, lot_of(lore, "abf")).lines, ((A, B),))

    def test_no_lot(self):
        right = {(0,), (0, 1)}
        for thing in odd_things() + [
            (2,), (3,), (2, 3), (4,), (0, 4), (1, 0), (0, 0), (-1, 0), (0, True), (False,), (False, 1), [0], ("0",), "0",
            (0, None), (0, (1,)), {0: 1}, ((0, 1),), range(2), 10 ** 39, (0, 10 ** 39),
        ]:
            is_lot = type(thing) is tuple and all(type(k) is int for k in thing) and thing in right
            if not is_lot:
                self.assertRaises(NoLot, about, FOUR, thing)
        for lot in lots_with_a_start(FOUR.signs):
            about(FOUR, lot)

    def check_too_many(self, call):
        with self.assertRaises(TooMany) as caught:
            call()
        self.assertEqual(caught.exception.most, 2000)

    def test_two_thousand(self):
        lore = with_names((("c", 0),), [(C, sized(1999))])
        found = about(lore, lot_of(lore, "ach"))
        self.assertEqual((len(found.lines), load(found)), (1, 2000))
        self.assertTrue(equal(lore, *found.lines[0]))
        self.assertTrue(alike(about(lore, tuple(range(len(lore.signs)))), lore))
        lore = with_names((("c", 0),), [(C, sized(2000))])
        self.check_too_many(lambda: about(lore, lot_of(lore, "achu")))
        self.assertEqual(about(lore, lot_of(lore, "ach")).lines, ())
        self.assertEqual(about(lore, lot_of(lore, "ahu")).lines, ())
        self.assertTrue(alike(about(lore, tuple(range(len(lore.signs)))), lore))
        self.assertRaises(NoLot, about, lore, lot_of(lore, "hu"))

    def test_great_terms_that_ask_for_no_line(self):
        names = [x + y for x in "bcdefghijk" for y in "abcdefghij"]
        lore = Lore((("a", 0), ("t", 2)), ())
        for one, other in zip(["a"] + names, names):
            lore = with_line(joined(lore, Lore(((other, 0),), ())), ((other,), ("t", (one,), (one,))))
        self.assertEqual(about(lore, lot_of(lore, "at")).lines, ())
        self.assertEqual(load(about(lore, lot_of(lore, ("a", "t", names[8])))), 2 ** 10)
        self.check_too_many(lambda: about(lore, lot_of(lore, ("a", "t", names[9]))))
        self.check_too_many(lambda: about(lore, lot_of(lore, ("a", "t", names[99]))))

    def test_the_load_is_of_all_classes_together(self):
        signs = tuple(sorted([("a", 0), ("b", 0), ("h", 2)] + [(f"d{x}", 0) for x in "bcdefghi"]))
        row = [("a",)] + [(f"d{x}",) for x in "bcdefghi"]
        lines = tuple((other, h(one, one)) for one, other in zip(row, row[1:]))
        lore = Lore(signs, lines)
        for names, many in ((("db",), 4), (("db", "dc"), 8), (tuple(f"d{x}" for x in "bcdefghi"), 32)):
            found = about(lore, lot_of(lore, names + ("a", "h")))
            self.assertEqual(load(found), many)
        self.assertEqual(len(classes(found)), 9)

    def test_equal_calls_give_equal_answers(self):
        lore = Lore(TWO.signs, TWO.lines)
        first = about(lore, (0, 2))
        about(FOUR, (0,))
        self.assertEqual(about(Lore(TWO.signs, TWO.lines), (0, 2)), first)
        self.assertEqual(lore, TWO)


if __name__ == "__main__":
    unittest.main()

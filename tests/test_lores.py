"""Promises 1.1 and 1.2: terms, lores, told terms."""

import unittest

from neatbooks.changing import with_line
from neatbooks.errors import BadLore, NoTerm
from neatbooks.lores import Lore, is_term, size, told_terms
from tests.samples import A, B, C, LOOP, TWO, WIDE, chain, f, g, h, how_great, nested, odd_things
from tests.samples import sixty_lines, some_lores, told

SIGNS = WIDE


class RightLores(unittest.TestCase):
    def test_kept_as_they_are(self):
        lines = ((A, f(B)), (h(A, g(C)), B), (A, f(B)))
        lore = Lore(SIGNS, lines)
        self.assertEqual(lore.signs, SIGNS)
        self.assertEqual(lore.lines, lines)
        self.assertEqual(sorted(vars(lore)), ["lines", "signs"])

    def test_the_bounds_are_let(self):
        twelve = tuple((letter, 0) for letter in "abcdefghijkl")
        self.assertEqual(Lore(twelve, ()).signs, twelve)
        self.assertEqual(Lore((("abcdefgh", 0), ("z", 2)), ()).signs, (("abcdefgh", 0), ("z", 2)))
        self.assertEqual(len(Lore(SIGNS, ((A, B),) * 24).lines), 24)
        self.assertEqual(len(told_terms(Lore(SIGNS, sixty_lines()))), 60)

    def test_nested_sixty_deep(self):
        term = chain("f", 56, A)
        lore = Lore(SIGNS, ((term, A),))
        self.assertEqual(len(told_terms(lore)), 57)

    def test_equal_just_if_both_attributes_are(self):
        one = Lore(SIGNS, ((A, f(B)), (A, B)))
        self.assertTrue(one == Lore(tuple(list(SIGNS)), ((("a",), ("f", ("b",))), (A, B))))
        self.assertFalse(one != Lore(SIGNS, ((A, f(B)), (A, B))))
        for other in (
            Lore(SIGNS, ((A, B), (A, f(B)))), Lore(SIGNS, ((f(B), A), (A, B))), Lore(SIGNS, ((A, f(B)),)),
            Lore(SIGNS[:5], ((A, f(B)), (A, B))), Lore(SIGNS, ((A, g(B)), (A, B))), Lore(SIGNS, ()),
        ):
            self.assertFalse(one == other)
            self.assertTrue(one != other)

    def test_equal_to_nothing_of_another_kind(self):
        for thing in odd_things() + [(SIGNS, ()), [SIGNS, ()]]:
            self.assertFalse(Lore(SIGNS, ()) == thing)
            self.assertFalse(thing == Lore(SIGNS, ()))


class BadLores(unittest.TestCase):
    def check(self, part, signs, lines):
        with self.assertRaises(BadLore) as caught:
            Lore(signs, lines)
        self.assertEqual(caught.exception.part, part)
        self.assertIs(isinstance(caught.exception.part, bool), False)

    def test_signs(self):
        for signs in (
            (("b", 0), ("a", 0)), (("a", 0), ("a", 0)), (("a", 0), ("a", 1)), (("abcdefghi", 0),), (("", 0),),
            (("A", 0),), (("a1", 0),), (("a b", 0),), (("_", 0),), (("a", 0), ("b", 3)), (("a", 0), ("b", -1)),
            (("a", False),), (("a", 0), ("b", True)), (("a", 1), ("b", 2)), (), [("a", 0)], (["a", 0],),
            (("a",),), (("a", 0, 0),), ("a", 0), (("a", "0"),), (("a", None),), ((b"a", 0),), (("a", 0), None),
            tuple((letter, 0) for letter in "abcdefghijklm"), {"a": 0}, "a", (("a", 0), ("b", 10 ** 39)),
        ):
            self.check("signs", signs, ())

    def test_signs_of_any_kind(self):
        for thing in odd_things():
            if thing != (("a", 0),):
                self.check("signs", thing, ())
            self.check("signs", (("a", 0), thing), ())
            self.check("signs", (("a", 0), (thing, 0)), ())
            if type(thing) is not int or thing not in (0, 1, 2):
                self.check("signs", (("a", 0), ("b", thing)), ())

    def test_signs_come_first(self):
        self.check("signs", (("b", 0), ("a", 0)), [])
        self.check("signs", (), None)

    def test_lines(self):
        for lines in ([], [(A, B)], None, {}, "", 0, True, iter(()), ((A, B),) * 25, (None,) * 25):
            self.check("lines", SIGNS, lines)

    def test_lines_of_any_kind(self):
        for thing in odd_things():
            if not isinstance(thing, tuple):
                self.check("lines", SIGNS, thing)

    def test_the_number_of_what_is_no_line(self):
        for thing in (
            (A,), (A, B, C), [A, B], (A, ["b"]), (A, ("d",)), (A, ("f",)), (A, ("f", A, A)), (A, ("a", A)),
            (A, ("h", A)), (A, ("h", A, B, C)), (A, "b"), ("a", "b"), (True, False), (A, ()), (A, (True,)),
            (A, (b"b",)), (A, (A,)), (A, ("f", "a")), (A, ("f", ["a"])), (A, (["b"],)), (A, ("f", None)), "ab",
            (A, B).__iter__(), {A: B}, (A, f(f(f(("x",))))), (("F", A), A), (f(("f",)), A),
        ):
            self.check(0, SIGNS, (thing,))
            self.check(2, SIGNS, ((A, B), (B, C), thing, (A, C), None))

    def test_the_number_of_any_other_thing(self):
        for thing in odd_things():
            self.check(1, SIGNS, ((A, B), thing))
            self.check(0, SIGNS, ((h(A, thing), B),) if thing != A else (None,))
            self.check(0, SIGNS, ((thing, B),) if thing != A else (None,))

    def test_nested_sixty_deep(self):
        self.check(0, SIGNS, ((chain("f", 56, ["a"]), A),))
        self.check(0, SIGNS, ((nested(lambda part: ("f", part), 57), A),))
        self.check("lines", SIGNS, nested(lambda part: [part], 59))

    def test_terms(self):
        self.check("terms", SIGNS, sixty_lines() + ((C, A),))
        self.check(2, SIGNS, sixty_lines() + ((C, B, A),))
        self.check(3, SIGNS, sixty_lines() + ((C, A), (C, None)))


class Terms(unittest.TestCase):
    def test_is_term(self):
        lore = Lore(SIGNS, ())
        for term in (A, C, f(A), h(A, B), h(f(A), h(A, g(C))), chain("f", 59, A), chain("g", 5000, A)):
            self.assertIs(is_term(lore, term), True)
        for thing in (("d",), ("f",), ("f", A, A), ("a", A), ["a"], "a", ("h", A), h(A, ["b"]), f(("d",)), ()):
            self.assertIs(is_term(lore, thing), False)
        self.assertIs(is_term(LOOP, B), False)
        for thing in odd_things():
            self.assertIs(is_term(lore, thing), thing == A)

    def test_size(self):
        lore = Lore(SIGNS, ())
        self.assertEqual(size(lore, A), 1)
        self.assertEqual(size(lore, h(f(A), h(A, g(C)))), 7)
        self.assertEqual(size(lore, h(f(A), f(A))), 5)
        self.assertEqual(size(lore, chain("g", 5000, A)), 5001)

    def test_size_of_no_term(self):
        for thing in odd_things() + [f(("d",)), ("f",), ["a"], chain("f", 57, ["a"])]:
            if thing != A:
                with self.assertRaises(NoTerm):
                    size(Lore(SIGNS, ()), thing)

    def test_told_terms(self):
        self.assertEqual(told_terms(Lore(SIGNS, ())), ())
        self.assertEqual(told_terms(TWO), (A, B, f(A), f(B)))
        lore = Lore(SIGNS, ((h(A, g(B)), f(f(f(C)))), (A, A)))
        self.assertEqual(told_terms(lore), (A, B, C, f(C), g(B), f(f(C)), f(f(f(C))), h(A, g(B))))

    def test_the_order_of_one_size_is_that_of_tuples(self):
        # By tuples the first part decides, be it the greater one or not.
        terms = [h(A, f(B)), h(f(A), A), h(B, f(A)), f(h(A, A)), g(g(g(A))), h(A, g(A))]
        lore = Lore(SIGNS, tuple((term, A) for term in terms))
        self.assertEqual(told_terms(lore)[-6:], tuple(sorted(terms)))
        longer = Lore((("a", 0), ("ab", 0), ("b", 0), ("f", 2)), ((("f", ("ab",), ("a",)), ("f", A, B)),))
        self.assertEqual(told_terms(longer), (A, ("ab",), B, ("f", A, B), ("f", ("ab",), A)))

    def test_told_terms_of_many_lores(self):
        for lore in some_lores(60, 5, 4):
            terms = told_terms(lore)
            self.assertEqual(terms, tuple(told(lore.lines)))
            self.assertEqual([size(lore, term) for term in terms], [how_great(term) for term in terms])

    def test_great_terms_need_no_recursion(self):
        lore = with_line(LOOP, (chain("f", 1500, A), A))
        self.assertEqual(len(told_terms(lore)), 1501)
        self.assertTrue(lore == with_line(LOOP, (chain("f", 1500, A), A)))
        self.assertFalse(lore == with_line(LOOP, (chain("f", 1501, A), A)))


if __name__ == "__main__":
    unittest.main()

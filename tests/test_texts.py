"""Promise 1.4: terms and lores written as texts."""

import unittest

from neatbooks.changing import with_line
from neatbooks.errors import NoTerm
from neatbooks.lores import Lore
from neatbooks.texts import lore_text, term_text
from tests.samples import A, B, BARE, C, LOOP, TWO, WIDE, chain, f, g, h, odd_things


class TermText(unittest.TestCase):
    def test_word_by_word(self):
        lore = Lore(WIDE, ())
        self.assertEqual(term_text(lore, A), "a")
        self.assertEqual(term_text(lore, f(A)), "f(a)")
        self.assertEqual(term_text(lore, h(A, B)), "h(a,b)")
        self.assertEqual(term_text(lore, h(f(g(A)), h(B, f(C)))), "h(f(g(a)),h(b,f(c)))")
        self.assertEqual(term_text(Lore((("abc", 0), ("sign", 1)), ()), ("sign", ("abc",))), "sign(abc)")

    def test_great_terms(self):
        self.assertEqual(term_text(LOOP, chain("f", 3000, A)), "f(" * 3000 + "a" + ")" * 3000)

    def test_no_term(self):
        for thing in odd_things() + [C, g(A), f(C), ("f",), ["a"], "f(a)", ("f", A, A), chain("f", 57, ["a"])]:
            if thing != A:
                with self.assertRaises(NoTerm):
                    term_text(TWO, thing)


class LoreText(unittest.TestCase):
    def test_word_by_word(self):
        self.assertEqual(lore_text(LOOP), "sign a 0\nsign f 1\na = f(a)\n")
        self.assertEqual(lore_text(TWO), "sign a 0\nsign b 0\nsign f 1\nf(a) = b\nf(b) = a\n")
        self.assertEqual(lore_text(BARE), "sign a 0\nsign b 0\nsign f 1\nsign g 1\n")
        lore = Lore((("a", 0), ("h", 2)), ((h(A, h(A, A)), A), (A, A)))
        self.assertEqual(lore_text(lore), "sign a 0\nsign h 2\nh(a,h(a,a)) = a\na = a\n")

    def test_more_lines_than_a_lore_may_be_made_of(self):
        lore = with_line(Lore(TWO.signs, ((A, B),) * 24), (B, A))
        self.assertEqual(lore_text(lore), "sign a 0\nsign b 0\nsign f 1\n" + "a = b\n" * 24 + "b = a\n")


if __name__ == "__main__":
    unittest.main()

"""Promise 1.4: terms and lores read from texts."""

import unittest
from itertools import product

from neatbooks.changing import with_line
from neatbooks.errors import BadLore, BadText
from neatbooks.lores import Lore
from neatbooks.reading import read_lore, read_term
from neatbooks.texts import lore_text, term_text
from tests.samples import A, B, C, FOUR, LOOP, REST, TWICE, TWO, WIDE, chain, f, g, h, odd_things, sixty_lines
from tests.samples import some_lores

# Signs of which one begins another one, with fewer places and with more.
ALIKE = (("a", 0), ("ab", 1), ("b", 2), ("ba", 0))


def texts_up_to(signs, most):
    """A dict from all texts of terms of some signs, up to so many characters, to their terms."""
    found = {}
    by_length = {length: [] for length in range(1, most + 1)}
    for length in range(1, most + 1):
        for sign, places in signs:
            rest = length - len(sign)
            if places == 0 and rest == 0:
                by_length[length].append((sign, (sign,)))
            if places == 1 and rest > 2:
                by_length[length] += [(f"{sign}({text})", (sign, term)) for text, term in by_length[rest - 2]]
            if places == 2:
                for first in range(1, rest - 3):
                    for one, other in product(by_length[first], by_length[rest - 3 - first]):
                        by_length[length].append((f"{sign}({one[0]},{other[0]})", (sign, one[1], other[1])))
        found.update(by_length[length])
    return found


class ReadTerm(unittest.TestCase):
    def check(self, place, lore, text):
        with self.assertRaises(BadText) as caught:
            read_term(lore, text)
        self.assertEqual(caught.exception.place, place, repr(text))

    def test_each_text_leads_back(self):
        lore = Lore(WIDE, ())
        for term in (A, f(A), h(A, B), h(f(g(A)), h(B, f(C))), h(h(A, A), h(h(B, C), A)), chain("f", 29, A)):
            self.assertEqual(read_term(lore, term_text(lore, term)), term)
        self.assertEqual(read_term(lore, "h(a,f(b))"), h(A, f(B)))
        self.assertEqual(read_term(Lore((("abc", 0), ("sign", 1)), ()), "sign(abc)"), ("sign", ("abc",)))

    def test_what_is_no_string(self):
        for thing in odd_things() + [b"a", ["a"], A, None]:
            if not isinstance(thing, str):
                self.check(0, LOOP, thing)

    def test_places(self):
        lore = Lore(WIDE, ())
        for place, text in (
            (1, ""), (1, " a"), (2, "a "), (2, "a\n"), (1, "d"), (1, "("), (1, ")"), (1, ","), (1, "A"), (1, "\t"),
            (2, "f"), (2, "f,"), (2, "f)"), (3, "f("), (3, "f()"), (4, "f(a"), (4, "f(a,"), (4, "f(a(a))"),
            (5, "f(a))"), (5, "f(a)a"), (5, "f(a),"), (5, "f(a)("), (2, "a,b"), (2, "a)"), (2, "a("),
            (2, "ab"), (4, "h(a)"), (5, "h(a,"), (6, "h(a,b"), (6, "h(a,b,c)"), (4, "h(a b)"), (5, "h(a, b)"),
            (3, "h(,b)"), (5, "h(a,)"), (6, "f(f(a"), (7, "f(f(a)"), (6, "f(f(a,"), (7, "f(f(a),"), (2, "ff(a)"),
            (2, "f (a)"), (4, "f(fa))"), (8, "h(f(a),d)"),
        ):
            self.check(place, lore, text)

    def test_signs_of_which_one_begins_another_one(self):
        lore = Lore((("ab", 0), ("abc", 1), ("abcde", 2)), ())
        for place, text in (
            (2, "a"), (3, "abd"), (5, "abcd"), (4, "abc"), (3, "ab("), (4, "abcf"), (4, "abce"), (5, "abcd("),
            (6, "abcde"), (7, "abc(ab"), (6, "abc(a"), (6, "abc(a)"), (7, "abc(ab,"), (2, "aab"), (5, "abc()"),
        ):
            self.check(place, lore, text)
        self.assertEqual(read_term(lore, "abcde(ab,abc(ab))"), ("abcde", ("ab",), ("abc", ("ab",))))

    def test_all_short_texts(self):
        texts = texts_up_to(ALIKE, 13)
        heads = {text[:end] for text in texts for end in range(len(text) + 1)}
        lore = Lore(ALIKE, ())
        for length in range(6):
            for letters in product("ab(,)", repeat=length):
                text = "".join(letters)
                if text in texts:
                    self.assertEqual(read_term(lore, text), texts[text])
                else:
                    ends = [end for end in range(1, length + 1) if text[:end] not in heads]
                    self.check(min(ends, default=length + 1), lore, text)

    def test_all_texts_of_terms(self):
        lore = Lore(ALIKE, ())
        for text, term in texts_up_to(ALIKE, 11).items():
            self.assertEqual(read_term(lore, text), term)
            for end in range(len(text)):
                if text[:end] not in ("a", "ba"):
                    self.check(end + 1, lore, text[:end])

    def test_thirty_deep_and_more(self):
        for many in (30, 5000):
            text = "f(" * many + "a" + ")" * many
            self.assertEqual(term_text(LOOP, read_term(LOOP, text)), text)
            self.check(len(text), LOOP, text[:-1])
            self.check(len(text) + 1, LOOP, text + ")")


class ReadLore(unittest.TestCase):
    def bad_text(self, line, text):
        with self.assertRaises(BadText) as caught:
            read_lore(text)
        self.assertEqual(caught.exception.place, line, repr(text))

    def bad_lore(self, part, text):
        with self.assertRaises(BadLore) as caught:
            read_lore(text)
        self.assertEqual(caught.exception.part, part)

    def test_each_text_leads_back(self):
        for lore in [LOOP, TWO, FOUR, REST, TWICE, Lore(WIDE, sixty_lines())] + some_lores(60):
            self.assertEqual(read_lore(lore_text(lore)), lore)
        self.assertEqual(read_lore("sign a 0\nsign f 1\na = f(a)\n"), LOOP)

    def test_signs_that_look_like_words_of_the_text(self):
        lore = Lore((("a", 0), ("sign", 0)), ((("sign",), A), (A, ("sign",))))
        self.assertEqual(read_lore("sign a 0\nsign sign 0\nsign = a\na = sign\n"), lore)
        self.bad_text(2, "sign a 0\nsign = a\nsign sign 0\n")

    def test_what_is_no_string(self):
        for thing in odd_things():
            if not isinstance(thing, str):
                self.bad_text(0, thing)

    def test_wrong_lines(self):
        for row in (
            "", " ", "sign", "sign b", "sign b ", "sign b 3", "sign b 01", "sign b -1", "sign b 0 ", " sign b 0",
            "sign  b 0", "sign B 0", "sign abcdefghi 0", "sign b0 0", "sign a 0", "sign a 1", "sign f 1", "SIGN b 0",
            "sign\tb 0", "a", "a =", "a = ", "= a", "a=a", "a  = a", "a = a ", "a = b", "b = a", "a = f", "a = f(a",
            "a == a", "a = a = a", "a = f( a)", "sign b 0\t", "sign (a) 0", "a = f(a))", "f = a", "tell a = a",
        ):
            self.bad_text(3, f"sign a 0\nsign f 1\n{row}\na = a\n")
            self.bad_text(3, f"sign a 0\nsign f 1\n{row}\nbad\nsign")

    def test_the_first_of_several(self):
        self.bad_text(1, "a = a\nsign a 0\n")
        self.bad_text(2, "sign a 0\nsign f\nsign a 0\na = b\n")
        self.bad_text(4, "sign a 0\nsign f 1\na = f(a)\nx = a\na = x\n")

    def test_a_sign_behind_a_term(self):
        self.bad_text(3, "sign a 0\na = a\nsign b 0\n")
        self.bad_text(2, "sign f 1\nf(f) = f\nsign a 0\n")

    def test_a_sign_told_twice(self):
        self.bad_text(2, "sign a 0\nsign a 0\n")
        self.bad_text(3, "sign a 0\nsign b 0\nsign a 2\n")

    def test_terms_of_the_signs_told_so_far(self):
        self.bad_text(2, "sign a 0\na = b\nsign b 0\n")
        self.bad_text(1, "a = a\n")

    def test_a_last_line_feed_that_lacks(self):
        self.bad_text(1, "sign a 0")
        self.bad_text(3, "sign a 0\nsign f 1\na = f(a)")
        self.bad_text(2, "sign a 0\n ")
        self.bad_text(2, "sign a 0\nnonsense")
        self.bad_text(1, "nonsense\nsign a 0")
        self.bad_text(2, "sign a 0\n\n")

    def test_then_bad_lore(self):
        self.bad_lore("signs", "")
        self.bad_lore("signs", "sign b 0\nsign a 0\n")
        self.bad_lore("signs", "sign b 0\nsign a 0\na = b\n")
        self.bad_lore("signs", "sign f 1\n")
        self.bad_lore("signs", "".join(f"sign {letter} 0\n" for letter in "abcdefghijklm"))
        self.bad_lore("lines", "sign a 0\n" + "a = a\n" * 25)
        deep = Lore(WIDE, sixty_lines())
        self.bad_lore("terms", lore_text(with_line(deep, (C, C))))
        self.assertEqual(read_lore(lore_text(deep)), deep)

    def test_bad_text_comes_first(self):
        self.bad_text(3, "sign b 0\nsign a 0\na = c\n")
        self.bad_text(27, "sign a 0\n" + "a = a\n" * 25 + "a")


if __name__ == "__main__":
    unittest.main()

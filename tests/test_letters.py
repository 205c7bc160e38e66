"""Promise 11.2: letters that two holders send one another."""

import unittest
from random import Random

from neatbooks.changing import joined, with_line, without
from neatbooks.errors import OtherSigns, TooMany
from neatbooks.letters import is_letters, letters
from neatbooks.lines import alike, load, tells
from neatbooks.lores import Lore, is_term
from neatbooks.some import about
from tests.samples import A, B, BARE, C, FOUR, LOOP, ONE, TWO, are_equal, chain, f, g, marks_of, odd_things
from tests.samples import replaced, sized, small_terms, some_term, told, with_names

# For each pair the signs that both have, those of the one alone, those of the other alone.
SIGNS = (
    ((("a", 0), ("b", 0)), (("f", 1),), (("g", 1),)),
    ((("a", 0), ("b", 0), ("f", 1)), (("c", 0),), (("d", 0), ("g", 1))),
    ((("a", 0), ("b", 0), ("c", 0), ("d", 0)), (("f", 1),), (("h", 2),)),
    ((("a", 0), ("h", 2)), (("b", 0),), (("c", 0),)),
    ((("a", 0), ("f", 1)), (), (("g", 1),)),
    ((("a", 0), ("b", 0), ("c", 0), ("f", 1)), (), ()),
)


def some_pairs(many):
    """Pairs of small lores that share some signs."""
    random = Random(43)
    for number in range(many):
        shared, own, other_own = SIGNS[number % len(SIGNS)]
        lores = []
        for signs in (tuple(sorted(shared + own)), tuple(sorted(shared + other_own))):
            lines = []
            for _ in range(random.randrange(2, 6)):
                lines.append((some_term(random, signs, 3), some_term(random, signs, random.randrange(1, 3))))
            lores.append(Lore(signs, tuple(lines)))
        yield tuple(lores)


def pairs_one_behind_another(many):
    """Two lores that share pairs of signs: each pair comes to be equal by the one ahead of it, by turns through both."""
    shared = tuple((f"{side}{'abcdefgh'[k]}", 0) for side in "xy" for k in range(many))
    row = [((f"x{letter}",), (f"y{letter}",)) for letter in "abcdefgh"[:many]]
    lines = ([row[0]], [])
    for k in range(many - 1):
        sign = "gf"[k % 2]
        for side in range(2):
            lines[1 - k % 2].append(((sign, row[k][side]), row[k + 1][side]))
    one = Lore(tuple(sorted(shared + (("f", 1),))), tuple(lines[0]))
    return one, Lore(tuple(sorted(shared + (("g", 1),))), tuple(lines[1])), shared, row


def shared_of(one, other):
    return tuple(pair for pair in one.signs if pair in other.signs)


def about_shared(lore, shared):
    return about(lore, tuple(k for k, pair in enumerate(lore.signs) if pair in shared))


def with_letters(lore, row):
    for letter in row:
        lore = joined(lore, letter)
    return lore


class Letters(unittest.TestCase):
    def check_same(self, lore, other, signs, size=5):
        """Checks that two lores tell the same of all small terms of some signs, and of those within their lines."""
        terms = small_terms(signs, size, 150)
        places = Lore(signs, ())
        terms += [term for term in told(lore.lines) + told(other.lines) if is_term(places, term)]
        both = set(zip(marks_of(lore, terms), marks_of(other, terms)))
        self.assertEqual(len(both), len(set(one for one, _ in both)))
        self.assertEqual(len(both), len(set(further for _, further in both)))

    def check(self, one, other):
        """Checks all letters of two holders; tells how many there are."""
        found = letters(one, other)
        self.assertIs(type(found), list)
        shared = shared_of(one, other)
        for k, letter in enumerate(found):
            self.assertIs(type(letter), Lore)
            self.assertEqual(letter.signs, shared)
            knows = with_letters((one, other)[k % 2], found[1 - k % 2:k:2])
            for line in letter.lines:
                self.assertTrue(are_equal(knows, *line))
            self.check_same(letter, knows, shared)
            self.assertTrue(alike(letter, about_shared(knows, shared)))
            if k > 0:
                self.assertIs(alike(letter, found[k - 1]), k == len(found) - 1)
        self.assertGreater(len(found), 1)
        every = joined(one, other)
        for lore, row in ((one, found[1::2]), (other, found[::2])):
            self.assertTrue(alike(with_letters(lore, row), about_shared(every, lore.signs)))
            self.check_same(with_letters(lore, row), every, lore.signs)
        self.assertIs(is_letters(one, other, found), True)
        return len(found)

    def test_some_pairs_either_way_round(self):
        seen = {}
        for one, other in some_pairs(150):
            for many in (self.check(one, other), self.check(other, one)):
                seen[many] = seen.get(many, 0) + 1
        self.assertGreater(min(seen[many] for many in (2, 3)), 10)
        self.assertGreater(max(seen), 3)

    def test_by_hand(self):
        self.assertEqual(letters(BARE, BARE), [BARE, BARE])
        self.assertEqual(letters(ONE, LOOP), [Lore(LOOP.signs, ()), LOOP, LOOP])
        self.assertEqual(letters(LOOP, ONE), [LOOP, LOOP])
        found = letters(TWO, Lore((("a", 0), ("b", 0), ("g", 1)), ((A, B),)))
        both = Lore((("a", 0), ("b", 0)), ((A, B),))
        self.assertEqual(found, [Lore(both.signs, ()), both, both])

    def test_pairs_that_become_equal_one_behind_another(self):
        for many in range(1, 6):
            one, other, shared, row = pairs_one_behind_another(many)
            self.assertEqual(self.check(one, other), many + 1)
            # The other way round the first letter tells nothing yet.
            self.assertEqual(self.check(other, one), many + 2)
            for k, letter in enumerate(letters(one, other)):
                self.assertTrue(alike(letter, Lore(tuple(sorted(shared)), tuple(row[:k + 1]))))

    def test_none(self):
        for signs, other_signs in ((FOUR.signs, TWO.signs), (LOOP.signs, FOUR.signs)):
            one, other = Lore(signs, ()), Lore(other_signs, ())
            empty = Lore(shared_of(one, other), ())
            self.assertEqual(letters(one, other), [empty, empty])
            self.assertIs(is_letters(one, other, [empty, empty]), True)
            self.assertIs(is_letters(one, other, [empty]), False)
            self.assertIs(is_letters(one, other, []), False)
            self.assertIs(is_letters(one, other, [empty] * 3), False)

    def test_one_thing_changed(self):
        one, other, shared, row = pairs_one_behind_another(4)
        found = letters(one, other)
        self.assertEqual(len(found), 5)
        for k, letter in enumerate(found):
            self.assertIs(is_letters(one, other, found[:k] + found[k + 1:]), False)
            self.assertIs(is_letters(one, other, found[:k] + [letter] + found[k:]), False)
            for other_letter in found:
                self.assertIs(is_letters(one, other, replaced(found, k, other_letter)), alike(letter, other_letter))
            for number in range(len(letter.lines)):
                self.assertIs(is_letters(one, other, replaced(found, k, without(letter, (number,)))), False)
            for line in row + [(row[0][0], row[1][0])]:
                more = with_line(letter, line)
                self.assertIs(is_letters(one, other, replaced(found, k, more)), tells(letter, more))
            turned = Lore(letter.signs, tuple((right, left) for left, right in letter.lines[::-1]))
            self.assertIs(is_letters(one, other, replaced(found, k, turned)), True)
            fewer = Lore(letter.signs[1:], tuple(line for line in letter.lines if letter.signs[0][0] not in (
                line[0][0], line[1][0])))
            more = joined(letter, Lore((("q", 0),), ()))
            for thing in odd_things() + [fewer, more, letter.lines, (letter.signs, letter.lines), [letter], (letter,)]:
                self.assertIs(is_letters(one, other, replaced(found, k, thing)), False)

    def test_other_things(self):
        for one, other in ((TWO, FOUR), pairs_one_behind_another(3)[:2]):
            found = letters(one, other)
            for thing in odd_things() + [tuple(found), dict(enumerate(found)), [found], found[0], [tuple(found)]]:
                self.assertIs(is_letters(one, other, thing), False)

    def test_sixty_deep(self):
        lore = Lore(LOOP.signs, ((chain("f", 28, A), chain("f", 56, A)),))
        other = Lore(FOUR.signs, ((f(A), g(B)),))
        found = letters(lore, other)
        self.assertTrue(alike(found[-1], lore))
        self.assertIs(is_letters(lore, other, found), True)
        self.assertIs(is_letters(lore, other, [LOOP] * len(found)), False)

    def test_other_signs(self):
        h_one = (("a", 0), ("h", 1))
        for signs, other_signs in (
            ((("a", 0), ("f", 1)), (("a", 0), ("f", 2))), ((("a", 0), ("b", 0)), (("a", 1), ("b", 0))),
            ((("a", 0), ("f", 1)), (("b", 0), ("f", 1))), ((("a", 0),), (("b", 0),)), (h_one, (("a", 0), ("h", 2))),
            ((("a", 0), ("b", 0)), (("a", 0), ("b", 1), ("c", 0))),
        ):
            one, other = Lore(signs, ()), Lore(other_signs, ())
            for first, last in ((one, other), (other, one)):
                self.assertRaises(OtherSigns, letters, first, last)
                for thing in odd_things() + [[], [one, one]]:
                    self.assertRaises(OtherSigns, is_letters, first, last, thing)

    def check_too_many(self, one, other):
        for call in (lambda: letters(one, other), lambda: is_letters(one, other, None), lambda: is_letters(one, other, [])):
            with self.assertRaises(TooMany) as caught:
                call()
            self.assertEqual(caught.exception.most, 2000)

    def test_two_thousand(self):
        other = Lore((("a", 0), ("c", 0), ("h", 2), ("u", 1)), ())
        one = with_names((("c", 0),), [(C, sized(1999))])
        found = letters(one, other)
        self.assertEqual([load(letter) for letter in found], [2000, 2000])
        self.assertIs(is_letters(one, other, found), True)
        self.assertEqual([load(letter) for letter in letters(other, one)], [0, 2000, 2000])
        great = with_names((("c", 0),), [(C, sized(2000))])
        self.check_too_many(great, other)
        self.check_too_many(other, great)
        # Without c or u nothing is told of the shared signs.
        fewer = Lore((("a", 0), ("c", 0), ("h", 2)), ())
        self.assertEqual([load(letter) for letter in letters(great, fewer)], [0, 0])

    def test_two_thousand_in_a_later_letter(self):
        # Only behind the other's letter that tells c and e equal do n and a great term come to be one.
        other = Lore((("a", 0), ("c", 0), ("e", 0), ("h", 2), ("n", 0), ("u", 1)), ((C, ("e",)),))
        signs = (("c", 0), ("e", 0), ("k", 1), ("n", 0))
        one = with_names(signs, [(("n",), ("k", C)), (("k", ("e",)), sized(1997))])
        self.assertEqual([load(letter) for letter in letters(one, other)], [0, 2, 2000, 2000])
        self.assertEqual([load(letter) for letter in letters(other, one)], [2, 2000, 2000])
        great = with_names(signs, [(("n",), ("k", C)), (("k", ("e",)), sized(1998))])
        self.check_too_many(great, other)
        self.check_too_many(other, great)

    def test_equal_calls_give_equal_answers(self):
        one, other = Lore(TWO.signs, TWO.lines), Lore(FOUR.signs, FOUR.lines)
        first = letters(one, other)
        first_again = letters(one, other)
        self.assertEqual(first, first_again)
        self.assertIsNot(first, first_again)
        first.clear()
        self.assertEqual(letters(one, other), first_again)
        self.assertEqual((one, other), (TWO, FOUR))


if __name__ == "__main__":
    unittest.main()

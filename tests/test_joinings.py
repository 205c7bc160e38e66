"""Promise 12.1: joinings of a lore's classes."""

import unittest
from itertools import product

from neatbooks.errors import NoJoining, NoNumber, TooMany
from neatbooks.hall import classes, ways
from neatbooks.joinings import count_joinings, excess, is_joining, joining_at
from neatbooks.lores import Lore
from tests.samples import A, B, BARE, C, FOUR, LOOP, ONE, TWICE, TWO, WIDE, chain, f, h, nested, odd_things, replaced
from tests.samples import sixty_lines, some_lores


def patterns(many):
    """All patterns of so many numbers, ascending."""
    return [row for row in product(range(many), repeat=many)
            if all(row[k] <= max(row[:k], default=-1) + 1 for k in range(many))]


def slow_ways(lore, pattern):
    """The set of the pairs (joined way, joined class) of a pattern."""
    return {((sign, tuple(pattern[part] for part in parts)), pattern[number])
            for number, row in enumerate(ways(lore)) for sign, parts in row}


def slow_joins(lore, pattern):
    """Whether joined ways that are one are of joined classes, held against one another two by two."""
    found = slow_ways(lore, pattern)
    return all(one[0] != other[0] or one[1] == other[1] for one in found for other in found)


def slow_joinings(lore):
    return [pattern for pattern in patterns(len(classes(lore))) if slow_joins(lore, pattern)]


def free_signs(many):
    """A lore of so many signs without places, each told equal to itself."""
    return Lore(tuple((name, 0) for name in "abcdefghijkl"[:many]), tuple(((n,), (n,)) for n in "abcdefghijkl"[:many]))


def some_small(most_classes, many=260):
    """Small lores with few classes."""
    lores = [LOOP, TWO, FOUR, ONE, TWICE, BARE] + some_lores(many, 6, 3)
    return [lore for lore in lores if len(classes(lore)) <= most_classes]


class Joinings(unittest.TestCase):
    def check_too_many(self, call):
        with self.assertRaises(TooMany) as caught:
            call()
        self.assertEqual(caught.exception.most, 9)

    def test_by_hand(self):
        self.assertEqual([joining_at(FOUR, k) for k in range(count_joinings(FOUR))], [
            (0, 0, 0, 0), (0, 0, 0, 1), (0, 0, 1, 0), (0, 0, 1, 1), (0, 0, 1, 2), (0, 1, 0, 0), (0, 1, 0, 1),
            (0, 1, 0, 2), (0, 1, 1, 0), (0, 1, 1, 1), (0, 1, 1, 2), (0, 1, 2, 0), (0, 1, 2, 1), (0, 1, 2, 2),
            (0, 1, 2, 3)])
        self.assertEqual([excess(FOUR, pattern) for pattern in ((0, 0, 0, 0), (0, 0, 1, 2), (0, 1, 2, 3))], [3, 1, 2])
        self.assertEqual((count_joinings(LOOP), joining_at(LOOP, 0), excess(LOOP, (0,))), (1, (0,), 1))
        self.assertEqual([joining_at(TWO, k) for k in range(2)], [(0, 0), (0, 1)])
        self.assertEqual((excess(TWO, (0, 0)), excess(TWO, (0, 1))), (2, 2))

    def test_without_classes(self):
        self.assertEqual((count_joinings(BARE), joining_at(BARE, 0), excess(BARE, ())), (1, (), 0))
        self.assertIs(is_joining(BARE, ()), True)
        self.assertIs(is_joining(BARE, (0,)), False)
        self.assertRaises(NoNumber, joining_at, BARE, 1)
        self.assertRaises(NoJoining, excess, BARE, [])

    def test_kinds(self):
        self.assertIs(type(count_joinings(TWO)), int)
        self.assertIs(type(joining_at(TWO, 1)), tuple)
        self.assertIs(type(excess(TWO, (0, 1))), int)

    def test_pattern_by_pattern(self):
        fewer = 0
        for lore in some_small(5):
            many = len(classes(lore))
            found = slow_joinings(lore)
            self.assertEqual(count_joinings(lore), len(found))
            self.assertEqual([joining_at(lore, k) for k in range(len(found))], found)
            self.assertRaises(NoNumber, joining_at, lore, len(found))
            for pattern in patterns(many):
                self.assertIs(is_joining(lore, pattern), pattern in found)
                if pattern in found:
                    self.assertEqual(excess(lore, pattern), len(slow_ways(lore, pattern)) - len(set(pattern)))
                else:
                    self.assertRaises(NoJoining, excess, lore, pattern)
                    fewer += 1
        self.assertGreater(fewer, 100)

    def test_more_classes(self):
        for lore in [lore for lore in some_small(8) if len(classes(lore)) > 6][:12]:
            found = [joining_at(lore, k) for k in (0, count_joinings(lore) // 2, count_joinings(lore) - 1)]
            self.assertTrue(all(slow_joins(lore, pattern) for pattern in found))
            self.assertEqual(sorted(found), found)
        seven = [lore for lore in some_small(7) if len(classes(lore)) == 7][:2]
        for lore in seven:
            self.assertEqual([joining_at(lore, k) for k in range(count_joinings(lore))][:200], slow_joinings(lore)[:200])
        self.assertEqual(len(seven), 2)

    def test_free_signs(self):
        for many, count in ((7, 877), (8, 4140), (9, 21147)):
            lore = free_signs(many)
            self.assertEqual(count_joinings(lore), count)
            self.assertEqual(joining_at(lore, 0), (0,) * many)
            self.assertEqual(joining_at(lore, count - 1), tuple(range(many)))
            self.assertEqual(joining_at(lore, 1), (0,) * (many - 1) + (1,))
            self.assertRaises(NoNumber, joining_at, lore, count)
            self.assertEqual((excess(lore, (0,) * many), excess(lore, tuple(range(many)))), (many - 1, 0))

    def test_rows_of_terms(self):
        for many in range(1, 10):
            term = chain("f", many - 1, A)
            lore = Lore(LOOP.signs, ((term, term),))
            self.assertEqual(len(classes(lore)), many)
            # Such a joining is told by the first two terms that it joins, if it joins any.
            self.assertEqual(count_joinings(lore), 1 + many * (many - 1) // 2)
            for k in range(count_joinings(lore)):
                self.assertTrue(slow_joins(lore, joining_at(lore, k)))
                self.assertIs(is_joining(lore, joining_at(lore, k)), True)

    def test_one_number_changed(self):
        for lore in (TWO, FOUR, free_signs(4), Lore(WIDE, ((h(A, B), C), (f(A), f(B)), (h(B, A), A)))):
            many = len(classes(lore))
            right = slow_joinings(lore)
            for pattern in right:
                self.assertIs(is_joining(lore, list(pattern)), False)
                self.assertRaises(NoJoining, excess, lore, list(pattern))
                for at in range(many):
                    for number in list(range(-1, many + 1)) + [10 ** 39, True, False, None, "0", (0,), [0], b"0"]:
                        changed = replaced(pattern, at, number)
                        flag = type(number) is int and changed in right
                        self.assertIs(is_joining(lore, changed), flag, changed)
                        if not flag:
                            self.assertRaises(NoJoining, excess, lore, changed)
                for thing in (pattern[1:], pattern + (0,), pattern[:-1], (pattern,), dict(enumerate(pattern))):
                    self.assertIs(is_joining(lore, thing), False)

    def test_what_is_no_joining(self):
        for thing in odd_things() + [(0, 2), (1, 0), (1, 1), (True, 1), (0, True), (False, 0), nested(lambda p: (0, p), 59)]:
            for lore in (TWO, LOOP):
                if not (type(thing) is tuple and thing in slow_joinings(lore) and all(type(k) is int for k in thing)):
                    self.assertIs(is_joining(lore, thing), False, thing)
                    self.assertRaises(NoJoining, excess, lore, thing)

    def test_nine_classes_and_ten(self):
        lore = free_signs(10)
        self.check_too_many(lambda: count_joinings(lore))
        for thing in [0, 1, -1, 10 ** 6] + odd_things():
            self.check_too_many(lambda: joining_at(lore, thing))
        self.assertIs(is_joining(lore, tuple(range(10))), True)
        self.assertIs(is_joining(lore, (0,) * 9 + (2,)), False)
        self.assertEqual(excess(lore, (0,) * 10), 9)
        self.assertRaises(NoJoining, excess, lore, (0,) * 9)

    def test_sixty_told_terms(self):
        lore = Lore(WIDE, sixty_lines())
        many = len(classes(lore))
        self.check_too_many(lambda: count_joinings(lore))
        self.assertIs(is_joining(lore, tuple(range(many))), True)
        self.assertIs(is_joining(lore, (0,) * many), True)
        self.assertEqual(excess(lore, (0,) * many), 3)

    def test_no_number(self):
        for thing in odd_things() + [2, -1, 10 ** 40, "1", (1,), [1]]:
            if type(thing) is not int or not 0 <= thing < 2:
                self.assertRaises(NoNumber, joining_at, TWO, thing)

    def test_equal_calls_give_equal_answers(self):
        lore = Lore(TWO.signs, TWO.lines)
        for _ in range(2):
            self.assertEqual((count_joinings(lore), joining_at(lore, 1), excess(lore, (0, 1))), (2, (0, 1), 2))
        self.assertEqual(lore, TWO)


if __name__ == "__main__":
    unittest.main()

"""Promises 3.1 and, of 3.2, what neatbooks/picks.py lists: choices, picks, rings, wishes."""

import unittest
from itertools import permutations, product

from neatbooks.errors import NoChoice, NoWishes
from neatbooks.hall import ways
from neatbooks.lores import Lore
from neatbooks.picks import can_pick, completed, is_pick, is_ring, ring
from tests.samples import A, B, BARE, C, FOUR, LOOP, TWO, WIDE, chain, choices, f, goes_round, h, nested
from tests.samples import odd_things, parts_of, sixty_lines, small_lores, wrong_choices


def rings(lore, choice, many):
    """All rings of so many classes."""
    parts = parts_of(lore, choice)
    return [row for row in permutations(range(len(choice)), many)
            if all(row[k - 1] in parts[row[k]] for k in range(many))]


# Three classes that can be made of one another, each on its own as well.
THREE = Lore((("a", 0), ("b", 0), ("c", 0), ("f", 1), ("h", 2)), ((A, f(B)), (B, f(C)), (C, f(A)), (C, h(A, A))))


class Picks(unittest.TestCase):
    def test_examples(self):
        self.assertIs(is_ring(TWO, (1, 1), (0, 1)), True)
        self.assertIs(is_pick(TWO, (1, 1)), False)
        self.assertEqual(completed(TWO, {0: 1}), (1, 0))
        self.assertEqual(can_pick(LOOP), ((0,),))
        self.assertEqual([is_pick(TWO, row) for row in choices(TWO)], [True, True, True, False])

    def test_choice_by_choice(self):
        for lore in small_lores():
            for choice in choices(lore):
                self.assertIs(is_pick(lore, choice), not goes_round(lore, choice))

    def test_without_classes(self):
        self.assertIs(is_pick(BARE, ()), True)
        self.assertIs(ring(BARE, ()), None)
        self.assertEqual(can_pick(BARE), ())
        self.assertEqual(completed(BARE, {}), ())
        self.assertIs(is_ring(BARE, (), ()), False)

    def test_what_is_no_pick(self):
        for thing in odd_things() + wrong_choices():
            self.assertIs(is_pick(TWO, thing), repr(thing) == "(0, 0)")
            if type(thing) is not int or thing != 0:
                self.assertIs(is_pick(TWO, (0, thing)), type(thing) is int and thing == 1)

    def test_great_lores(self):
        lore = Lore(WIDE, sixty_lines())
        self.assertIs(is_pick(lore, (0,) * len(ways(lore))), True)
        self.assertEqual(completed(lore, {}), (0,) * len(ways(lore)))
        chained = Lore(WIDE, tuple((chain("f", k, A), chain("g", k, A)) for k in range(24)))
        last = tuple(len(row) - 1 for row in ways(chained))
        self.assertIs(is_pick(chained, last), True)
        self.assertEqual(completed(chained, dict(enumerate(last))), last)


class Rings(unittest.TestCase):
    def test_examples(self):
        self.assertIs(ring(TWO, (0, 1)), None)
        self.assertEqual(sorted(ring(TWO, (1, 1))), [0, 1])
        self.assertEqual(ring(LOOP, (1,)), (0,))
        self.assertIs(ring(LOOP, (0,)), None)

    def test_shortest_ones(self):
        for lore in small_lores():
            for choice in choices(lore):
                found = ring(lore, choice)
                lengths = [many for many in range(1, len(choice) + 1) if rings(lore, choice, many)]
                if found is None:
                    self.assertEqual(lengths, [])
                else:
                    self.assertEqual(len(found), lengths[0])
                    self.assertIs(is_ring(lore, choice, found), True)
                    self.assertIn(found, rings(lore, choice, len(found)))

    def test_of_two_rings_the_shorter_one(self):
        # The first three classes stand in a ring of three, the last two in one of two.
        signs = tuple((letter, 0) for letter in "abcde") + (("f", 1),)
        lines = tuple(((one,), f((other,))) for one, other in zip("abcde", "bcaed"))
        lore = Lore(signs, lines)
        self.assertEqual(sorted(ring(lore, (1,) * 5)), [3, 4])
        self.assertEqual(sorted(ring(lore, (1, 1, 1, 0, 1))), [0, 1, 2])

    def test_is_ring(self):
        everything = (1, 1, 1)
        self.assertEqual(ways(THREE)[2], (("c", ()), ("f", (0,)), ("h", (0, 0))))
        for row in ((0, 2, 1), (2, 1, 0), (1, 0, 2)):
            self.assertIs(is_ring(THREE, everything, row), True)
        for row in ((0, 1, 2), (0,), (0, 1), (), (0, 2), (0, 2, 1, 0), (0, 2, 1, 0, 2, 1), (0, 2, 2, 1)):
            self.assertIs(is_ring(THREE, everything, row), False)
        self.assertIs(is_ring(THREE, (1, 1, 2), (0, 2, 1)), True)
        self.assertIs(is_ring(THREE, (1, 1, 0), (0, 2, 1)), False)

    def test_all_tuples_of_classes(self):
        for lore in small_lores()[:60]:
            for choice in choices(lore)[:8]:
                right = [row for many in (1, 2, 3) for row in rings(lore, choice, many)]
                for many in range(4):
                    for row in product(range(len(choice)), repeat=many):
                        self.assertIs(is_ring(lore, choice, row), row in right)

    def test_what_is_no_ring(self):
        for thing in odd_things() + [[0, 1], (0, True), (False, 1), (-2, -1), (2, 3), ("0", "1"), [0], {0: 1}, (0, [1])]:
            self.assertIs(is_ring(TWO, (1, 1), thing), False)
            self.assertIs(is_ring(TWO, (1, 1), (0, thing)), type(thing) is int and thing == 1)

    def test_no_choice(self):
        for thing in odd_things() + wrong_choices():
            if repr(thing) != "(0, 0)":
                for call in (
                    lambda: ring(TWO, thing), lambda: is_ring(TWO, thing, (0, 1)), lambda: is_ring(TWO, thing, None),
                ):
                    self.assertRaises(NoChoice, call)


class Wishes(unittest.TestCase):
    def picks(self, lore):
        return [choice for choice in choices(lore) if not goes_round(lore, choice)]

    def test_can_pick(self):
        self.assertEqual(can_pick(TWO), ((0, 1), (0, 1)))
        self.assertEqual(can_pick(FOUR), ((0,), (0,), (0, 1), (0, 1)))
        self.assertEqual(can_pick(THREE), ((0, 1), (0, 1), (0, 1, 2)))
        for lore in small_lores():
            columns = [{pick[k] for pick in self.picks(lore)} for k in range(len(ways(lore)))]
            self.assertEqual(can_pick(lore), tuple(tuple(sorted(column)) for column in columns))

    def test_completed(self):
        for lore in small_lores():
            picks = self.picks(lore)
            for row in product(*[[None] + list(range(len(row))) for row in ways(lore)[:4]]):
                wishes = {k: way for k, way in enumerate(row) if way is not None}
                right = [pick for pick in picks if all(pick[k] == way for k, way in wishes.items())]
                self.assertEqual(completed(lore, wishes), min(right, default=None))

    def test_wishes_that_go_round(self):
        self.assertIs(completed(TWO, {0: 1, 1: 1}), None)
        self.assertIs(completed(LOOP, {0: 1}), None)
        self.assertIs(completed(THREE, {0: 1, 1: 1, 2: 2}), None)
        self.assertEqual(completed(THREE, {1: 1, 2: 1}), (0, 1, 1))

    def test_no_wishes(self):
        for thing in [
            {0: 2}, {0: -1}, {2: 0}, {-1: 0}, {0: True}, {0: None}, {"0": 0}, {0: "0"}, {None: 0}, {(0,): 0}, {0: (0,)},
            [(0, 1)], ((0, 1),), (0, 1), {0: 0, 1: 5}, {0: 1, 1: 1, 2: 0}, {0: [0]}, None, {10 ** 39: 0}, {0: 10 ** 39},
            {0: nested(lambda part: {0: part}, 58)},
        ]:
            self.assertRaises(NoWishes, completed, TWO, thing)
        for thing in odd_things():
            if thing not in ({}, {0: 0}):
                self.assertRaises(NoWishes, completed, TWO, thing)
            if type(thing) is not int or thing not in (0, 1):
                self.assertRaises(NoWishes, completed, TWO, {0: thing})

    def test_the_wishes_stay_as_they_were(self):
        wishes = {1: 1}
        self.assertEqual(completed(TWO, wishes), (0, 1))
        self.assertEqual(wishes, {1: 1})
        self.assertEqual(completed(TWO, wishes), (0, 1))


if __name__ == "__main__":
    unittest.main()

"""Promise 3.2, of it what neatbooks/counting.py lists: how many picks there are, and their numbers."""

import unittest

from neatbooks.counting import count_picks, pick_at, pick_number
from neatbooks.errors import NoNumber, NoPick, TooMany
from neatbooks.hall import ways
from neatbooks.lores import Lore
from neatbooks.picks import is_pick
from tests.samples import A, BARE, FOUR, LOOP, TWO, WIDE, f, h, layers, no_picks, odd_things, picks_of, row_of_signs
from tests.samples import sixty_lines, small_lores


class Counting(unittest.TestCase):
    def check_too_many(self, call):
        with self.assertRaises(TooMany) as caught:
            call()
        self.assertEqual(caught.exception.most, 11)

    def test_examples(self):
        self.assertEqual((count_picks(TWO), pick_at(TWO, 1), count_picks(LOOP)), (3, (0, 1), 1))
        self.assertEqual([pick_at(TWO, k) for k in range(3)], [(0, 0), (0, 1), (1, 0)])
        self.assertEqual([pick_number(TWO, pick) for pick in ((0, 0), (0, 1), (1, 0))], [0, 1, 2])
        self.assertEqual(count_picks(FOUR), 4)

    def test_kinds(self):
        self.assertIs(type(count_picks(TWO)), int)
        self.assertIs(type(pick_number(TWO, (0, 1))), int)
        self.assertIs(type(pick_at(TWO, 0)), tuple)

    def test_without_classes(self):
        self.assertEqual((count_picks(BARE), pick_at(BARE, 0), pick_number(BARE, ())), (1, (), 0))
        self.assertRaises(NoNumber, pick_at, BARE, 1)

    def test_choice_by_choice(self):
        many = 0
        for lore in small_lores(300, 8, 300):
            picks = picks_of(lore)
            many = max(many, len(picks))
            self.assertEqual(count_picks(lore), len(picks))
            for number, pick in enumerate(picks):
                self.assertEqual(pick_at(lore, number), pick)
                self.assertEqual(pick_number(lore, pick), number)
            self.assertRaises(NoNumber, pick_at, lore, len(picks))
        self.assertGreater(many, 10)

    def test_rows_and_rings_of_signs(self):
        for many in range(1, 12):
            self.assertEqual(count_picks(row_of_signs(many, False)), 2 ** (many - 1))
            self.assertEqual(count_picks(row_of_signs(many, True)), 2 ** many - 1)
        ring = row_of_signs(11, True)
        self.assertEqual(pick_at(ring, 2 ** 11 - 2), (1,) * 10 + (0,))
        self.assertEqual(pick_at(ring, 2 ** 10), (1,) + (0,) * 10)
        self.assertEqual(pick_number(ring, (1,) * 10 + (0,)), 2 ** 11 - 2)

    def test_eleven_classes_and_twelve(self):
        lore = layers(11)
        self.assertEqual(count_picks(lore), 2 ** 11)
        for number in (0, 1, 2, 1000, 2046, 2047):
            self.assertEqual(pick_at(lore, number), (0,) + tuple(number >> k & 1 for k in range(10, -1, -1)))
            self.assertEqual(pick_number(lore, pick_at(lore, number)), number)
        lore = layers(12)
        self.check_too_many(lambda: count_picks(lore))
        for thing in [0, 2 ** 12, -1] + odd_things():
            self.check_too_many(lambda: pick_at(lore, thing))
        self.check_too_many(lambda: pick_number(lore, (0,) * 13))
        for thing in no_picks() + [(0,) * 12, (1,) + (0,) * 12, (0,) * 12 + (2,), (0,) * 12 + (False,)]:
            self.assertRaises(NoPick, pick_number, lore, thing)

    def test_choices_that_go_round(self):
        self.assertRaises(NoPick, pick_number, TWO, (1, 1))
        self.assertRaises(NoPick, pick_number, LOOP, (1,))
        self.assertRaises(NoPick, pick_number, row_of_signs(11, True), (1,) * 11)

    def test_many_ways_of_one_class(self):
        lines = tuple((A, h(one, other)) for one in (A, f(A), f(f(A))) for other in (A, f(A), f(f(A))))
        lore = Lore(WIDE, lines + ((f(A), ("b",)), (f(f(A)), ("c",))))
        self.assertEqual(max(len(row) for row in ways(lore)), 10)
        picks = picks_of(lore)
        self.assertEqual(count_picks(lore), len(picks))
        self.assertEqual([pick_at(lore, number) for number in range(len(picks))], picks)

    def test_sixty_told_terms(self):
        lore = Lore(WIDE, sixty_lines())
        self.assertEqual(count_picks(lore), 4)
        self.assertEqual([pick_number(lore, pick_at(lore, number)) for number in range(4)], [0, 1, 2, 3])
        self.assertTrue(is_pick(lore, pick_at(lore, 3)))

    def test_no_number(self):
        for thing in odd_things() + [3, -1, 10 ** 40, "1", (1,), [1]]:
            if type(thing) is not int or not 0 <= thing < 3:
                self.assertRaises(NoNumber, pick_at, TWO, thing)

    def test_no_pick(self):
        for thing in no_picks():
            self.assertRaises(NoPick, pick_number, TWO, thing)

    def test_equal_calls_give_equal_answers(self):
        lore = Lore(TWO.signs, TWO.lines)
        for _ in range(2):
            self.assertEqual((count_picks(lore), pick_at(lore, 2), pick_number(lore, (1, 0))), (3, (1, 0), 2))
        self.assertEqual(lore, TWO)


if __name__ == "__main__":
    unittest.main()

"""The examples of the document, e01 to e14, word by word."""

import unittest

from neatbooks.books import book, fault
from neatbooks.common import is_endless
from neatbooks.counting import count_picks, pick_at
from neatbooks.hall import class_of, classes, losses, ways, worth
from neatbooks.lines import gain, is_least, spare
from neatbooks.lores import Lore
from neatbooks.orders import count_ordered, is_ranks
from neatbooks.picks import can_pick, completed, is_pick, is_ring
from neatbooks.runs import wrong_places
from neatbooks.shares import fall, level, share
from neatbooks.terms import count_terms, has_endless
from neatbooks.weights import least_weights

loop = Lore((("a", 0), ("f", 1)), ((("a",), ("f", ("a",))),))
two = Lore((("a", 0), ("b", 0), ("f", 1)), ((("f", ("a",)), ("b",)), (("f", ("b",)), ("a",))))
four = Lore((("a", 0), ("b", 0), ("f", 1), ("g", 1)), (
    (("f", ("a",)), ("f", ("b",))), (("g", ("a",)), ("g", ("b",)))))
one = Lore(four.signs, ((("a",), ("b",)),))
rest = Lore(four.signs, ((("f", ("a",)), ("a",)), (("f", ("b",)), ("b",)), (("g", ("a",)), ("g", ("b",)))))
twice = Lore(loop.signs, ((("f", ("f", ("a",))), ("a",)), (("f", ("f", ("f", ("a",)))), ("a",))))


class Examples(unittest.TestCase):
    def test_e01(self):
        self.assertEqual(classes(two), ((("a",), ("f", ("b",))), (("b",), ("f", ("a",)))))

    def test_e02(self):
        self.assertEqual(ways(two), ((("a", ()), ("f", (1,))), (("b", ()), ("f", (0,)))))

    def test_e03(self):
        self.assertEqual((worth(two), worth(twice), losses(twice), class_of(two, ("f", ("f", ("b",))))), (2, 1, (0, 1), 1))

    def test_e04(self):
        self.assertEqual((count_picks(two), pick_at(two, 1), count_picks(loop)), (3, (0, 1), 1))

    def test_e05(self):
        self.assertEqual((is_ring(two, (1, 1), (0, 1)), is_pick(two, (1, 1)), completed(two, {0: 1}), can_pick(loop)), (
            True, False, (1, 0), ((0,),)))

    def test_e06(self):
        self.assertEqual(book(two, (0, 1)), ((("b",), ("f", ("a",))), (("f", ("f", ("a",))), ("a",))))

    def test_e07(self):
        self.assertEqual(fault(two, ((("b",), ("f", ("a",))),)), ("misses", 1))

    def test_e08(self):
        self.assertEqual(wrong_places(two, (0, 1), ("f", ("f", ("b",)))), ((0,), (0, 0)))

    def test_e09(self):
        self.assertEqual(least_weights(two, {"a": 5, "b": 1, "f": 2}), (3, 1))

    def test_e10(self):
        thing = [("a",), ("f", ("a",)), ("f", ("f", ("a",))), ("b",)]
        self.assertIs(is_ranks(two, book(two, (0, 1)), thing), True)
        self.assertEqual(count_ordered(four), 2)

    def test_e11(self):
        self.assertEqual((spare(twice), is_least(twice), gain(loop, (("f", ("a",)), ("a",)))), ((), False, 0))

    def test_e12(self):
        thing = (0, ("a",), ("b",), ("f", ("_",)), ("f", ("_",)), ("g", ("_",)), ("g", ("_",)))
        self.assertIs(is_endless(one, rest, thing), True)

    def test_e13(self):
        self.assertEqual((share(loop, 2), fall(four), level(four)), ((1, 2), 1, 1))

    def test_e14(self):
        self.assertEqual((count_terms(two, 0, 3), has_endless(two, 0)), (1, True))


if __name__ == "__main__":
    unittest.main()

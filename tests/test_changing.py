"""Promise 1.3: lores made of lores."""

import unittest

from neatbooks.changing import joined, renamed, with_line, without
from neatbooks.errors import NoLine, NoLot, NoNames, OtherSigns
from neatbooks.lores import Lore, told_terms
from tests.samples import A, B, C, FOUR, LOOP, TWO, WIDE, chain, f, g, h, nested, odd_things, sixty_lines


class WithLine(unittest.TestCase):
    def test_one_line_more_behind_the_others(self):
        self.assertEqual(with_line(TWO, (A, B)), Lore(TWO.signs, TWO.lines + ((A, B),)))
        self.assertEqual(with_line(TWO, TWO.lines[0]).lines, TWO.lines + TWO.lines[:1])
        self.assertEqual(len(TWO.lines), 2)

    def test_sizes_are_not_bounded(self):
        full = Lore(WIDE, ((A, B),) * 24)
        self.assertEqual(with_line(full, (A, C)).lines, ((A, B),) * 24 + ((A, C),))
        sixty = Lore(WIDE, sixty_lines())
        self.assertEqual(len(told_terms(with_line(sixty, (C, f(C))))), 62)
        self.assertEqual(len(with_line(with_line(full, (A, C)), (A, C)).lines), 26)

    def test_no_line(self):
        for thing in (
            (A,), (A, B, A), [A, B], (A, C), (A, ["a"]), (A, "a"), "ab", (A, f(g(A))), (A, ("f",)), (True, A),
            nested(lambda part: (part,), 59), (chain("f", 57, ["a"]), A),
        ):
            with self.assertRaises(NoLine):
                with_line(TWO, thing)
        for thing in odd_things():
            with self.assertRaises(NoLine):
                with_line(TWO, thing)
            if thing != A:
                with self.assertRaises(NoLine):
                    with_line(TWO, (A, thing))


class Without(unittest.TestCase):
    def test_the_lines_of_a_lot_go(self):
        lore = Lore(WIDE, ((A, B), (B, C), (A, f(A)), (A, B)))
        self.assertEqual(without(lore, ()), lore)
        self.assertEqual(without(lore, (1,)).lines, ((A, B), (A, f(A)), (A, B)))
        self.assertEqual(without(lore, (0, 3)), Lore(WIDE, ((B, C), (A, f(A)))))
        self.assertEqual(without(lore, (0, 1, 2, 3)), Lore(WIDE, ()))
        self.assertEqual(len(lore.lines), 4)

    def test_of_more_lines_than_are_let(self):
        great = with_line(Lore(WIDE, ((A, B),) * 24), (A, C))
        self.assertEqual(len(without(with_line(great, (B, C)), (0,)).lines), 25)

    def test_no_lot(self):
        for thing in ((2,), (-1,), (1, 0), (0, 0), (False,), (True,), [0], [], "0", ("0",), {0: 0}, (None,), 0, ((0,),)):
            with self.assertRaises(NoLot):
                without(TWO, thing)
        with self.assertRaises(NoLot):
            without(Lore(WIDE, ()), (0,))
        for thing in odd_things():
            if thing not in ((), (0,)):
                with self.assertRaises(NoLot):
                    without(TWO, thing)


class Renamed(unittest.TestCase):
    def test_other_names(self):
        lore = renamed(TWO, {"a": "z", "b": "a", "f": "b"})
        self.assertEqual(lore.signs, (("a", 0), ("b", 1), ("z", 0)))
        self.assertEqual(lore.lines, ((("b", ("z",)), ("a",)), (("b", ("a",)), ("z",))))
        self.assertEqual(TWO.lines, ((f(A), B), (f(B), A)))

    def test_names_that_are_kept_or_changed_about(self):
        self.assertEqual(renamed(TWO, {"f": "f", "b": "b", "a": "a"}), TWO)
        turned = renamed(Lore(WIDE, ((h(A, f(B)), C),)), {"a": "b", "b": "a", "c": "c", "f": "g", "g": "f", "h": "hh"})
        self.assertEqual(turned.lines, ((("hh", B, g(A)), C),))
        self.assertEqual(turned.signs, WIDE[:5] + (("hh", 2),))

    def test_the_names_stay_as_they_were(self):
        names = {"a": "x", "f": "y"}
        renamed(LOOP, names)
        self.assertEqual(names, {"a": "x", "f": "y"})

    def test_no_names(self):
        for thing in (
            {"a": "x"}, {"a": "x", "f": "x"}, {"a": "x", "f": "y", "g": "z"}, {"a": "x", "g": "y"}, {},
            {"a": "X", "f": "y"}, {"a": "", "f": "y"}, {"a": "abcdefghi", "f": "y"}, {"a": "x", "f": None},
            {"a": "x", "f": ["y"]}, {"a": "x", "f": ("y",)}, {"a": "x", 1: "y"}, {"a": "x", ("f",): "y"},
            {"a": b"x", "f": "y"}, (("a", "x"), ("f", "y")), [("a", "x"), ("f", "y")], ("a", "f"), {"a": 0, "f": 1},
            {"a": True, "f": False}, {"a": "x", "f": nested(lambda part: {"a": part}, 58)}, {b"a": "x", "f": "y"},
        ):
            with self.assertRaises(NoNames):
                renamed(LOOP, thing)
        for thing in odd_things():
            with self.assertRaises(NoNames):
                renamed(LOOP, thing)
            with self.assertRaises(NoNames):
                renamed(LOOP, {"a": "x", "f": thing} if thing != "a" else thing)


class Joined(unittest.TestCase):
    def test_signs_and_lines_of_both(self):
        lore = joined(TWO, LOOP)
        self.assertEqual(lore, Lore(TWO.signs, TWO.lines + LOOP.lines))
        self.assertEqual(joined(LOOP, TWO), Lore(TWO.signs, LOOP.lines + TWO.lines))
        self.assertEqual(joined(Lore((("z", 0),), ()), LOOP).signs, (("a", 0), ("f", 1), ("z", 0)))
        self.assertEqual(joined(TWO, TWO).lines, TWO.lines + TWO.lines)
        self.assertEqual((len(TWO.lines), len(LOOP.lines)), (2, 1))

    def test_sizes_are_not_bounded(self):
        one = Lore(tuple((letter, 0) for letter in "abcdefghijkl"), ((("a",), ("b",)),) * 24)
        other = Lore(tuple((letter, 0) for letter in "mnopqrstuvwx"), ((("m",), ("n",)),) * 24)
        both = joined(one, other)
        self.assertEqual((len(both.signs), len(both.lines)), (24, 48))
        self.assertEqual(both.signs, one.signs + other.signs)

    def test_other_signs(self):
        for signs in ((("a", 0), ("f", 2)), (("a", 1), ("b", 0)), (("a", 0), ("f", 0))):
            with self.assertRaises(OtherSigns):
                joined(LOOP, Lore(signs, ()))
            with self.assertRaises(OtherSigns):
                joined(Lore(signs, ()), LOOP)
        self.assertEqual(joined(FOUR, LOOP).signs, FOUR.signs)


if __name__ == "__main__":
    unittest.main()

"""Promise 10.1: what two lores tell in common, and endless tuples."""

import unittest
from math import lcm
from random import Random

from neatbooks.changing import with_line
from neatbooks.closure import Hall
from neatbooks.common import common, endless, is_endless, line_of, ties_of
from neatbooks.errors import NoEndless, NoNumber, OtherSigns, TooMany
from neatbooks.gathering import Gathering, Spread
from neatbooks.hall import classes, equal
from neatbooks.lines import alike, first_untold, load
from neatbooks.lores import Lore, is_term
from neatbooks.meeting import Meeting
from tests.samples import A, B, BARE, C, FOUR, LOOP, ONE, REST, TWICE, TWO, WIDE, are_equal, chain, f, g, h, how_great
from tests.samples import marks_of, nested, odd_things, replaced, small_terms, some_term, spots_of, told

HOLE = ("_",)
EXAMPLE = (0, A, B, f(HOLE), f(HOLE), g(HOLE), g(HOLE))
SIGNS = (
    LOOP.signs, TWO.signs, FOUR.signs, (("a", 0), ("h", 2)), (("a", 0), ("b", 0), ("h", 2)),
    (("a", 0), ("b", 0), ("f", 1), ("h", 2)), (("a", 0), ("b", 0), ("c", 0), ("f", 1), ("h", 2)),
)


def some_pairs(many):
    """Pairs of small lores of the same signs."""
    random = Random(31)
    for number in range(many):
        signs = SIGNS[number % len(SIGNS)]
        yield tuple(
            Lore(signs, tuple((some_term(random, signs, 3), some_term(random, signs, 3))
                              for _ in range(random.randrange(1, 4)))) for _ in range(2))


def filled(holed, term):
    """A holed term with a term in the place of the hole."""
    return term if holed == HOLE else holed[:1] + tuple(filled(part, term) for part in holed[1:])


def is_holed(lore, thing):
    """Whether a thing is a term with the hole at one place, below a sign."""
    if type(thing) is not tuple or thing == HOLE:
        return False
    try:
        places = [place for place, part in spots_of(thing) if type(part) is tuple and part == HOLE]
        return len(places) == 1 and is_term(lore, filled(thing, A))
    except TypeError:
        return False


def slow_is_endless(one, other, thing):
    """Judges an endless tuple word by word; what is equal is found the slow way."""
    if type(thing) is not tuple or len(thing) != 7 or type(thing[0]) is not int or thing[0] not in (0, 1):
        return False
    which, end, other_end, ring, other_ring, top, other_top = thing
    if not is_term(one, end) or not is_term(one, other_end):
        return False
    if not all(is_holed(one, part) for part in (ring, other_ring, top, other_top)):
        return False
    free, tied = (one, other) if which == 0 else (other, one)
    if not are_equal(free, end, other_end) or not are_equal(free, ring, other_ring) or not are_equal(free, top, other_top):
        return False
    if any(are_equal(free, filled(ring, end), term) for term in told(free.lines)):
        return False
    if not are_equal(tied, filled(ring, end), end) or not are_equal(tied, filled(other_ring, other_end), other_end):
        return False
    left, right = filled(top, end), filled(other_top, other_end)
    if left[0] != right[0] or not are_equal(tied, left, right):
        return False
    return any(not are_equal(tied, part, further) for part, further in zip(left[1:], right[1:]))


def doubled(term, many):
    """What stands above a term when it is doubled so many times."""
    for _ in range(many):
        term = h(term, term)
    return term


def round_of(steps, start=A, sign="f"):
    """A line by which so many steps lead back to their start."""
    return (chain(sign, steps, start), start)


def with_load(further):
    """A lore of six classes with a load of 2000 and some more."""
    row = [A]
    for _ in range(4):
        row.append(h(row[-1], row[-1]))
    base = h(row[-1], row[-1])
    signs = tuple(sorted([("a", 0), ("h", 2), ("u", 1)] + [(name, 2) for name in "bcdefgijk"]))
    # Each of these ways adds 127, 95, 79, 71, 67 or 65 to the load; the base has 63 signs.
    made = [(name, base, base) for name in "bcdefghijk"] + [(name, base, row[4]) for name in "bc"]
    made += [("b", base, row[3]), ("b", base, row[2])]
    if further:
        made += [(name, base, row[1]) for name in "bc"] + [("b", base, A), ("c", base, A), ("u", base)]
    else:
        made += [("b", base, row[1])] + [(name, base, A) for name in "bcde"]
    return Lore(signs, tuple((base, way) for way in made))


def doubled_apart(many):
    """A lore in which a and b are led, two of each by one sign, through so many pairs of classes, then to one class."""
    signs = (("a", 0), ("b", 0)) + tuple((name, 2) for name in "cdefghijk"[:many]) + (("t", 1),)
    names = {"a": A, "b": B, "c": ("c", A, A), "d": ("c", B, B), "e": ("d", ("c", A, A), ("c", A, A))}
    pairs = ["ab", "cd", "eb", "ac", "ad", "bc", "bd", "ae", "ce", "de"][:many + 1]
    lines = []
    for (one, other), (further, last), (sign, _) in zip(pairs, pairs[1:], signs[2:]):
        lines.append(((sign, names[one], names[one]), names[further]))
        lines.append(((sign, names[other], names[other]), names[last]))
    one, other = pairs[-1]
    return Lore(signs, tuple(lines) + ((("t", names[one]), ("t", names[other])),))


def weighed(one, other):
    """The load of what two lores tell in common, as it is told ahead of the lore itself."""
    gathering = Gathering()
    for row in Meeting(Hall(one), Hall(other)).sized_ways():
        gathering.gather(row)
    for tie in ties_of(Hall(one), Hall(other)):
        Spread(tie, one.signs, gathering).go()
    return gathering.weight


class Common(unittest.TestCase):
    def check(self, one, other, size=9, most=700):
        """Checks what both have in common by all small terms; tells whether there is a lore."""
        found, tuple_found = common(one, other), endless(one, other)
        self.assertIs(found is None, tuple_found is not None)
        if found is None:
            self.assertIs(is_endless(one, other, tuple_found), True)
            self.assertTrue(slow_is_endless(one, other, tuple_found))
            return False
        self.assertEqual(found.signs, one.signs)
        self.assertIs(type(found), Lore)
        self.assertEqual(load(found), weighed(one, other))
        terms = small_terms(one.signs, size, most)
        both = list(zip(marks_of(one, terms), marks_of(other, terms)))
        found_marks = marks_of(found, terms)
        pairs = set(zip(both, found_marks))
        self.assertEqual(len(pairs), len(set(both)))
        self.assertEqual(len(pairs), len(set(found_marks)))
        return True

    def test_examples(self):
        self.assertIs(common(ONE, REST), None)
        self.assertIs(is_endless(ONE, REST, EXAMPLE), True)
        self.assertIs(endless(ONE, FOUR), None)
        self.assertTrue(alike(common(ONE, FOUR), FOUR))
        self.assertTrue(alike(common(FOUR, ONE), FOUR))
        self.assertTrue(alike(common(LOOP, TWICE), LOOP))
        self.assertEqual(common(BARE, ONE), BARE)

    def test_of_a_lore_with_itself_and_with_none(self):
        for lore, _ in some_pairs(60):
            if len(classes(lore)) <= 6:
                self.assertTrue(alike(common(lore, lore), lore))
                self.assertEqual(common(lore, Lore(lore.signs, ())), Lore(lore.signs, ()))
                self.assertEqual(common(Lore(lore.signs, ()), lore), Lore(lore.signs, ()))

    def test_term_by_term(self):
        seen = {True: 0, False: 0}
        for one, other in some_pairs(330):
            if max(len(classes(one)), len(classes(other))) <= 6:
                flag = self.check(one, other)
                self.assertIs(self.check(other, one, 5), flag)
                seen[flag] += 1
        self.assertGreater(seen[True], 200)
        self.assertGreater(seen[False], 2)

    def test_rounds(self):
        for i in range(1, 7):
            for j in range(1, 7):
                one, other = Lore(LOOP.signs, (round_of(i),)), Lore(LOOP.signs, (round_of(j),))
                self.assertTrue(alike(common(one, other), Lore(LOOP.signs, (round_of(lcm(i, j)),))))
                self.assertIs(endless(one, other), None)

    def test_doublings_that_lead_back(self):
        signs = (("a", 0), ("h", 2))
        for i in range(1, 4):
            for j in range(1, 4):
                one, other = Lore(signs, ((doubled(A, i), A),)), Lore(signs, ((A, doubled(A, j)),))
                self.assertTrue(alike(common(one, other), Lore(signs, ((doubled(A, lcm(i, j)), A),))))
        one, other = Lore(signs, ((doubled(A, 2), A),)), Lore(signs, ((doubled(A, 5), A),))
        self.check_too_many(2000, lambda: common(one, other))
        self.assertIs(endless(one, other), None)
        one, other = Lore(signs, ((doubled(A, 5), A),)), Lore(signs, ((doubled(A, 6), A),))
        self.check_too_many(2000, lambda: common(one, other))
        one, other = Lore(signs, ((doubled(A, 3), A),)), Lore(signs, ((doubled(A, 3), A),))
        self.assertEqual(load(common(one, other)), 16)

    def test_rounds_at_two_equal_signs(self):
        for i in range(1, 4):
            for j in range(1, 4):
                tied = Lore(FOUR.signs, (round_of(i), round_of(j, B)))
                self.assertTrue(self.check(ONE, tied))
                self.assertEqual(common(ONE, tied).lines, ())
                if i + j < 6:
                    topped = with_line(tied, (g(A), g(B)))
                    self.assertFalse(self.check(ONE, topped))
                    self.assertFalse(self.check(topped, ONE))
                    self.assertEqual(endless(ONE, topped)[0], 0)
                    self.assertEqual(endless(topped, ONE)[0], 1)

    def test_tops_above_some_steps_alone(self):
        tied = Lore(FOUR.signs, (round_of(2), round_of(2, B), (g(f(A)), g(f(B)))))
        self.assertFalse(self.check(ONE, tied))
        # From a and b the steps lead away for good, and the tops are equal at their start alone.
        tied = Lore(FOUR.signs, ((f(f(A)), f(A)), (f(f(B)), f(B)), (g(A), g(B))))
        self.assertTrue(self.check(ONE, tied))
        self.assertTrue(alike(common(ONE, tied), Lore(FOUR.signs, ((g(A), g(B)),))))
        tied = Lore(FOUR.signs, ((f(f(A)), f(A)), (f(f(B)), f(B)), (g(f(A)), g(f(B)))))
        self.assertFalse(self.check(ONE, tied))

    def test_unlike_terms_beside_a_ring(self):
        signs = (("a", 0), ("b", 0), ("f", 1), ("h", 2))
        one = Lore(signs, ((A, B),))
        self.assertFalse(self.check(one, Lore(signs, ((f(A), A), (h(A, A), h(B, A))))))
        self.assertFalse(self.check(one, Lore(signs, ((f(A), A), (h(A, A), h(A, B))))))
        self.assertTrue(self.check(one, Lore(signs, ((f(B), f(B)), (h(A, A), h(B, A))))))
        self.assertTrue(self.check(one, Lore(signs, ((h(A, A), A), (f(A), f(B))))))
        self.assertFalse(self.check(one, Lore(signs, ((h(A, A), A), (h(A, f(A)), h(A, f(B)))))))

    def test_a_free_lore_with_rings_of_its_own(self):
        one = Lore(FOUR.signs, ((A, B), (f(A), A)))
        self.assertTrue(self.check(one, REST))
        self.assertTrue(alike(common(one, REST), REST))
        one = Lore(FOUR.signs, ((A, B), (f(f(A)), A)))
        self.assertTrue(self.check(one, REST))

    def check_too_many(self, most, call):
        with self.assertRaises(TooMany) as caught:
            call()
        self.assertEqual(caught.exception.most, most)

    def test_six_classes_and_seven(self):
        six, seven = Lore(LOOP.signs, ((chain("f", 5, A), A), (A, chain("f", 10, A)))), Lore(LOOP.signs, (round_of(7),))
        row = Lore(LOOP.signs, ((chain("f", 5, A), chain("f", 5, A)),))
        self.assertEqual((len(classes(six)), len(classes(seven)), len(classes(row))), (5, 7, 6))
        self.assertEqual(common(row, six).lines, ())
        self.assertIs(endless(row, six), None)
        for one, other in ((six, seven), (seven, six), (seven, seven), (row, seven)):
            self.check_too_many(6, lambda: common(one, other))
            self.check_too_many(6, lambda: endless(one, other))
        self.assertIs(is_endless(seven, six, None), False)
        self.assertRaises(NoEndless, line_of, seven, six, None, 0)

    def test_two_thousand(self):
        lore = with_load(False)
        self.assertEqual((len(classes(lore)), load(lore)), (6, 2000))
        found = common(lore, lore)
        self.assertEqual(load(found), 2000)
        self.assertTrue(alike(found, lore))
        every = Lore(lore.signs, ((A, h(A, A)), (A, ("u", A))) + tuple((A, (name, A, A)) for name in "bcdefgijk"))
        self.assertTrue(alike(common(every, lore), lore))
        lore = with_load(True)
        self.assertEqual((len(classes(lore)), load(lore)), (6, 2001))
        self.check_too_many(2000, lambda: common(lore, lore))
        self.check_too_many(2000, lambda: common(lore, every))
        self.check_too_many(2000, lambda: common(every, lore))
        self.assertIs(endless(lore, every), None)

    def test_too_many_is_told_only_where_there_is_a_lore(self):
        signs = (("a", 0), ("b", 0), ("f", 1), ("g", 1), ("h", 2))
        one = Lore(signs, ((A, B), (doubled(A, 5), A)))
        other = Lore(signs, ((doubled(A, 3), A), (f(A), A), (f(B), B), (g(A), g(B))))
        self.assertIs(common(one, other), None)
        self.assertTrue(slow_is_endless(one, other, endless(one, other)))

    def test_the_load_of_what_is_beyond_the_classes(self):
        signs = (("a", 0), ("b", 0), ("f", 1), ("g", 1), ("h", 2))
        one = Lore(signs, ((A, B),))
        tied = Lore(signs, ((g(f(A)), g(f(B))), (h(A, A), h(A, B)), (h(A, A), h(B, B))))
        found = common(one, tied)
        self.assertEqual(load(found), 3 + 3 + 3 * 3)
        self.assertTrue(alike(found, tied))
        self.assertTrue(self.check(one, tied))

    def test_two_thousand_beyond_the_classes(self):
        for many in range(2, 9):
            tied = doubled_apart(many)
            found = common(Lore(tied.signs, ((A, B),)), tied)
            self.assertEqual((len(found.lines), load(found)), (1, 2 ** (many + 2)))
            self.assertTrue(alike(found, common(tied, Lore(tied.signs, ((A, B),)))))
            self.assertEqual(first_untold(tied, found), None)
        tied = doubled_apart(9)
        self.check_too_many(2000, lambda: common(Lore(tied.signs, ((A, B),)), tied))
        self.check_too_many(2000, lambda: common(tied, Lore(tied.signs, ((B, A),))))
        self.assertIs(endless(tied, Lore(tied.signs, ((A, B),))), None)

    def test_near_two_thousand_beyond_the_classes(self):
        tied = doubled_apart(8)
        # The pairs of classes have terms of 1, 3, 7, .. 511 signs; t makes its class of five of them, u of one or two.
        tied = Lore(tied.signs + (("u", 1),), tied.lines)
        names = {"a": A, "b": B, "c": ("c", A, A), "d": ("c", B, B), "e": ("d", ("c", A, A), ("c", A, A))}
        rows = [("t", "b"), ("t", "d"), ("u", "a"), ("u", "e"), ("u", "d")]
        for sign, name in rows[:4]:
            tied = with_line(tied, (("t", names["c"]), (sign, names[name])))
        self.assertEqual(len(classes(tied)), 6)
        free = Lore(tied.signs, ((A, B),))
        self.assertEqual(load(common(free, tied)), 8 + 16 + 128 + 256 + 1024 + 512)
        self.assertEqual(first_untold(tied, common(tied, free)), None)
        tied = with_line(tied, (("t", names["c"]), ("u", names["d"])))
        self.check_too_many(2000, lambda: common(free, tied))

    def test_signs_that_the_free_lore_does_not_tell(self):
        signs = (("a", 0), ("b", 0), ("c", 0), ("f", 1), ("h", 2))
        one = Lore(signs, ((A, B),))
        for lines in (
            ((h(C, A), h(C, B)),), ((h(A, C), h(B, C)),), ((h(C, A), h(C, B)), (h(A, C), h(B, C))),
            ((h(f(C), A), h(f(C), B)),), ((h(B, f(C)), h(A, f(C))),), ((h(h(C, C), A), h(h(C, C), B)),),
            ((h(f(A), C), h(f(B), C)),), ((h(C, f(A)), h(C, f(B))),),
        ):
            tied = Lore(signs, lines)
            self.assertTrue(alike(common(one, tied), tied))
            self.assertTrue(self.check(one, tied) and self.check(tied, one))

    def test_a_class_of_two_ways_within_others(self):
        signs = (("a", 0), ("b", 0), ("f", 1), ("g", 1), ("h", 2))
        one = Lore(signs, ((A, f(B)),))
        tied = Lore(signs, ((g(A), g(f(B))), (h(g(A), A), h(g(A), f(B)))))
        self.assertTrue(self.check(one, tied) and self.check(tied, one))
        self.assertTrue(alike(common(one, tied), tied))
        self.assertEqual(load(common(one, tied)), 2 + 3 + 4 + 5)

    def test_other_signs(self):
        for one, other in ((TWO, LOOP), (FOUR, TWO), (BARE, Lore(WIDE, ())), (
                Lore((("a", 0), ("f", 2)), ()), Lore((("a", 0), ("f", 1)), ()))):
            for call in (
                lambda: common(one, other), lambda: endless(other, one), lambda: is_endless(one, other, None),
                lambda: is_endless(one, other, EXAMPLE), lambda: line_of(one, other, None, None),
            ):
                self.assertRaises(OtherSigns, call)
        great = Lore(WIDE, (round_of(9),))
        self.assertRaises(OtherSigns, common, great, LOOP)
        self.assertRaises(OtherSigns, endless, LOOP, great)

    def test_equal_calls_give_equal_answers(self):
        one, other = Lore(ONE.signs, ONE.lines), Lore(REST.signs, REST.lines)
        self.assertEqual(endless(one, other), endless(one, other))
        self.assertEqual(common(one, FOUR), common(one, FOUR))
        self.assertEqual((one, other), (ONE, REST))

    def test_lores_that_were_returned(self):
        lore = with_line(LOOP, (chain("f", 1200, A), f(A)))
        self.assertEqual(common(lore, LOOP).lines, LOOP.lines[:1])
        self.assertIs(endless(lore, TWICE), None)


class Endless(unittest.TestCase):
    def check(self, right, thing, one=ONE, other=REST):
        self.assertIs(is_endless(one, other, thing), right, thing)
        self.assertIs(slow_is_endless(one, other, thing), right, thing)

    def test_clause_by_clause(self):
        self.check(True, EXAMPLE)
        wrong = [
            (1, B), (2, A), (1, f(A)), (2, f(B)), (1, f(f(A))), (3, f(f(HOLE))), (4, f(f(HOLE))), (3, g(HOLE)), (5, f(HOLE)),
            (5, g(f(HOLE))), (6, g(f(HOLE))), (0, 1), (0, 2), (0, -1), (0, True), (0, False), (0, None), (0, "0"), (1, C),
            (1, HOLE), (1, ["a"]), (1, "a"), (2, None), (3, HOLE), (4, HOLE), (5, HOLE), (6, HOLE), (3, f(A)),
            (4, A), (5, g(A)), (6, f(HOLE)), (3, [HOLE]), (3, ["f", HOLE]), (3, f(["_"])), (3, f("_")), (3, f(("_", HOLE))),
            (4, None), (5, ()), (6, ("g", HOLE, HOLE)), (6, ("_", HOLE)), (5, ("q", HOLE)),
        ]
        for at, part in wrong:
            self.check(False, replaced(EXAMPLE, at, part))
        for thing in (EXAMPLE[:6], EXAMPLE + (A,), list(EXAMPLE), (), (0,), None, EXAMPLE[1:]):
            self.check(False, thing)

    def test_by_hand(self):
        both = f(f(HOLE))
        self.check(True, (0, A, B, both, both, g(HOLE), g(HOLE)))
        self.check(True, (0, B, A, f(HOLE), f(HOLE), g(HOLE), g(HOLE)))
        self.check(True, (0, A, B, f(HOLE), f(HOLE), g(f(HOLE)), g(f(HOLE))))
        self.check(True, (0, f(A), f(B), f(HOLE), f(HOLE), g(HOLE), g(HOLE)))
        # Each of these keeps all clauses but one.
        self.check(False, (1, A, B, f(HOLE), f(HOLE), g(HOLE), g(HOLE)))
        self.check(False, (0, A, f(B), f(HOLE), f(HOLE), g(HOLE), g(HOLE)))
        self.check(False, (0, A, B, f(HOLE), both, g(HOLE), g(HOLE)))
        self.check(False, (0, A, B, f(HOLE), f(HOLE), g(HOLE), g(f(HOLE))))
        self.check(False, (0, A, B, g(HOLE), g(HOLE), g(HOLE), g(HOLE)))
        self.check(False, (0, A, B, f(HOLE), f(HOLE), f(HOLE), f(HOLE)))
        self.check(False, (0, A, A, f(HOLE), f(HOLE), g(HOLE), g(HOLE)))
        self.check(False, (0, A, B, f(HOLE), f(HOLE), f(g(HOLE)), f(g(HOLE))))

    def test_both_rings_must_lead_back(self):
        for line, other_line in ((round_of(1), round_of(1, B)), (round_of(1), round_of(2, B)), (round_of(2), round_of(1, B))):
            right = line == round_of(1) and other_line == round_of(1, B)
            self.check(right, EXAMPLE, ONE, Lore(FOUR.signs, (line, other_line, (g(A), g(B)))))
        self.check(False, EXAMPLE, ONE, Lore(FOUR.signs, (round_of(1), (g(A), g(B)))))
        self.check(False, EXAMPLE, ONE, Lore(FOUR.signs, (round_of(1, B), (g(A), g(B)))))

    def test_a_sign_above_the_hole(self):
        self.check(True, (0, f(A), f(B), f(HOLE), f(HOLE), g(HOLE), g(HOLE)))
        self.check(False, (0, f(A), f(B), HOLE, HOLE, g(HOLE), g(HOLE)))
        tied = Lore(FOUR.signs, ((f(g(A)), g(A)), (g(A), g(B))))
        self.check(False, (0, g(A), g(B), f(HOLE), f(HOLE), HOLE, HOLE), ONE, tied)

    def test_which_one_is_free(self):
        for which in (0, 1, 2, 3, -1, True, False):
            self.check(type(which) is int and which == 0, (which,) + EXAMPLE[1:])
            self.check(type(which) is int and which == 1, (which,) + EXAMPLE[1:], REST, ONE)

    def test_the_ring_must_lead_out_of_the_told_terms(self):
        free = Lore(FOUR.signs, ((A, B), (f(A), A)))
        self.check(False, EXAMPLE, free, REST)
        free = Lore(FOUR.signs, ((A, B), (f(A), f(A))))
        self.check(False, EXAMPLE, free, REST)
        self.check(True, (0, A, B, f(f(HOLE)), f(f(HOLE)), g(HOLE), g(HOLE)), free, REST)

    def test_one_hole(self):
        signs = (("a", 0), ("b", 0), ("f", 1), ("h", 2))
        one = Lore(signs, ((A, B),))
        other = Lore(signs, ((f(A), A), (h(A, A), h(B, A)), (h(A, A), h(B, B)), (f(B), B)))
        ring = f(HOLE)
        self.check(True, (0, A, A, ring, ring, h(A, HOLE), h(B, HOLE)), one, other)
        self.check(True, (0, A, B, ring, ring, h(A, HOLE), h(B, HOLE)), one, other)
        self.check(False, (0, A, B, ring, ring, h(HOLE, HOLE), h(HOLE, HOLE)), one, other)
        self.check(False, (0, A, B, ring, ring, h(A, A), h(B, HOLE)), one, other)
        self.check(False, (0, A, A, ring, ring, h(A, HOLE), h(A, HOLE)), one, other)
        self.check(False, (0, A, A, ring, ring, h(A, HOLE), h(HOLE, B)), one, other)
        self.check(False, (0, A, A, ring, ring, h(HOLE, A), h(HOLE, B)), one, other)
        self.check(False, (0, A, A, ring, ring, h(A, HOLE), f(HOLE)), one, other)

    def test_with_parts_changed(self):
        random = Random(23)
        terms = [A, B, f(A), f(B), g(A), g(B), f(f(B))]
        holed = [f(HOLE), g(HOLE), f(f(HOLE)), f(g(HOLE)), g(f(HOLE)), HOLE, A]
        seen = {True: 0, False: 0}
        for _ in range(1500):
            thing = EXAMPLE
            for _ in range(random.randrange(1, 4)):
                at = random.randrange(7)
                thing = replaced(thing, at, random.choice([0, 1] if at == 0 else terms if at < 3 else holed))
            one, other = random.choice([(ONE, REST), (REST, ONE), (ONE, FOUR)])
            flag = is_endless(one, other, thing)
            self.assertIs(flag, slow_is_endless(one, other, thing), thing)
            seen[flag] += 1
        self.assertGreater(seen[True], 5)

    def test_told_ones_with_parts_changed(self):
        for one, other in some_pairs(330):
            if max(len(classes(one)), len(classes(other))) <= 6 and endless(one, other) is not None:
                thing = endless(one, other)
                for at in range(1, 7):
                    for part in thing[1:] + (A, f(HOLE)):
                        changed = replaced(thing, at, part)
                        self.assertIs(is_endless(one, other, changed), slow_is_endless(one, other, changed))
                self.assertIs(is_endless(other, one, replaced(thing, 0, 1 - thing[0])), True)

    def test_what_is_not_endless(self):
        for thing in odd_things() + [nested(lambda part: ("f", part), 58), nested(lambda part: (0,) + (part,) * 6, 4)]:
            self.assertIs(is_endless(ONE, REST, thing), False)
            for at in range(7):
                right = type(thing) is int and thing == 0 and at == 0 or at == 1 and thing == A
                self.assertIs(is_endless(ONE, REST, replaced(EXAMPLE, at, thing)), right)

    def test_fifty_eight_deep(self):
        deep = chain("f", 56, A)
        self.assertIs(is_endless(ONE, REST, replaced(replaced(EXAMPLE, 1, deep), 2, chain("f", 56, B))), True)
        ring = chain("f", 57, HOLE)
        self.assertIs(is_endless(ONE, REST, (0, A, B, ring, ring, g(ring), g(ring))), True)
        self.assertIs(is_endless(ONE, REST, (0, A, B, ring, f(ring), g(ring), g(ring))), False)


class LineOf(unittest.TestCase):
    def test_by_hand(self):
        self.assertEqual(line_of(ONE, REST, EXAMPLE, 0), (g(A), g(B)))
        self.assertEqual(line_of(ONE, REST, EXAMPLE, 2), (g(f(f(A))), g(f(f(B)))))
        self.assertEqual(line_of(ONE, REST, EXAMPLE, 8), (g(chain("f", 8, A)), g(chain("f", 8, B))))
        thing = (1, f(A), f(B), f(f(HOLE)), f(f(HOLE)), g(f(HOLE)), g(f(HOLE)))
        self.assertEqual(line_of(REST, ONE, thing, 1), (g(chain("f", 4, A)), g(chain("f", 4, B))))

    def test_told_by_both_and_not_by_the_ones_ahead(self):
        many = 0
        for one, other in [(ONE, REST), (REST, ONE)] + list(some_pairs(330)):
            if max(len(classes(one)), len(classes(other))) <= 6 and endless(one, other) is not None:
                thing = endless(one, other)
                lines = ()
                for number in range(5):
                    line = line_of(one, other, thing, number)
                    self.assertTrue(equal(one, *line) and equal(other, *line))
                    self.assertEqual(first_untold(Lore(one.signs, lines), Lore(one.signs, (line,))), 0)
                    lines += (line,)
                many += 1
        self.assertGreater(many, 4)

    def test_three_hundred_signs(self):
        def thing(end, ring, top):
            return (0, chain("f", end, A), chain("f", end, B), *[chain("f", ring, HOLE)] * 2, *[g(chain("f", top, HOLE))] * 2)

        self.assertEqual(how_great(line_of(ONE, REST, thing(50, 30, 7), 8)[0]), 1 + 7 + 240 + 50 + 1)
        self.assertEqual(how_great(line_of(ONE, REST, thing(50, 30, 8), 8)[1]), 300)
        for end, ring, top, number in ((51, 30, 8, 8), (50, 30, 9, 8), (58, 58, 9, 4)):
            with self.assertRaises(TooMany) as caught:
                line_of(ONE, REST, thing(end, ring, top), number)
            self.assertEqual(caught.exception.most, 300)
        one_sided = (0, A, B, *[chain("f", 29, HOLE)] * 2, *[g(HOLE)] * 2)
        self.assertEqual(how_great(line_of(ONE, REST, one_sided, 8)[0]), 234)

    def test_either_side(self):
        signs = (("a", 0), ("b", 0), ("f", 1), ("g", 1), ("h", 2))
        one = Lore(signs, ((A, B), (h(A, A), A)))
        other = Lore(signs, ((f(A), A), (f(B), B), (g(A), g(B)), (h(A, A), A), (h(B, B), B)))
        great = doubled(B, 7)
        thing = (0, A, great, f(HOLE), f(HOLE), g(HOLE), g(HOLE))
        self.assertIs(is_endless(one, other, thing), True)
        self.assertEqual(how_great(line_of(one, other, thing, 8)[1]), 264)
        greater = replaced(thing, 2, h(great, doubled(B, 5)))
        for number in (0, 8):
            self.assertRaises(TooMany, line_of, one, other, greater, number)
            turned = (0, greater[2], greater[1]) + greater[3:]
            self.assertRaises(TooMany, line_of, one, other, turned, number)

    def test_errors_in_their_order(self):
        for thing in odd_things() + [EXAMPLE[:6], replaced(EXAMPLE, 0, 1), replaced(EXAMPLE, 0, False)]:
            self.assertRaises(NoEndless, line_of, ONE, REST, thing, None)
        great = (0, A, B, *[chain("f", 50, HOLE)] * 2, *[g(HOLE)] * 2)
        for thing in odd_things() + [9, -1, 10 ** 40, "1", (1,)]:
            if type(thing) is not int or not 0 <= thing <= 8:
                self.assertRaises(NoNumber, line_of, ONE, REST, EXAMPLE, thing)
                self.assertRaises(NoNumber, line_of, ONE, REST, great, thing)
        self.assertRaises(TooMany, line_of, ONE, REST, great, 8)

    def test_kinds(self):
        line = line_of(ONE, REST, EXAMPLE, 3)
        self.assertEqual((type(line), len(line)), (tuple, 2))


if __name__ == "__main__":
    unittest.main()

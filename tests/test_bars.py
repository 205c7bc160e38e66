"""Promise 8.2: bars."""

import unittest
from random import Random

from neatbooks.bars import bar, is_bar
from neatbooks.books import book
from neatbooks.errors import NoBook
from neatbooks.lores import Lore, is_term
from neatbooks.orders import ranks
from tests.samples import A, B, BARE, C, FOUR, LOOP, TWO, WIDE, chain, f, g, h, nested, no_books, odd_things, picks_of
from tests.samples import replaced, slow_book, small_lores, within

RULES = ((f(A), f(B)), (g(B), g(A)))
UP = ((A, B, ("case",)), (g(A), g(B), ("like", (0,))), (g(B), g(A), ("rule", 1)), (g(A), g(A), ("on", 1, 2)))
DOWN = ((B, A, ("case",)), (f(B), f(A), ("like", (0,))), (f(A), f(B), ("rule", 0)), (f(B), f(B), ("on", 1, 2)))
BAR = ("cases", A, B, ("ring", UP), ("ring", DOWN))


def is_number(thing, limit):
    return type(thing) is int and 0 <= thing < limit


def lets(lore, rules, cases, ahead, triple):
    """Whether a thing may stand next in a log, word by word as the document says."""
    if type(triple) is not tuple or len(triple) != 3 or not is_term(lore, triple[0]) or not is_term(lore, triple[1]):
        return False
    one, other, reason = triple
    if type(reason) is not tuple or not reason or type(reason[0]) is not str:
        return False
    word, rest = reason[0], reason[1:]
    if word == "rule" and len(rest) == 1:
        return is_number(rest[0], len(rules)) and rules[rest[0]] == (one, other)
    if word == "part" and not rest:
        return other in one[1:]
    if word == "case" and not rest:
        return (one, other) in cases
    if word == "on" and len(rest) == 2 and all(is_number(k, len(ahead)) for k in rest):
        first, last = ahead[rest[0]], ahead[rest[1]]
        return first[0] == one and first[1] == last[0] and last[1] == other
    if word == "like" and len(rest) == 1 and type(rest[0]) is tuple:
        if one[0] != other[0] or len(rest[0]) != len(one) - 1 or all(k is None for k in rest[0]):
            return False
        for k, part, further in zip(rest[0], one[1:], other[1:]):
            if k is None and part != further or k is not None and part == further:
                return False
            if k is not None and not (is_number(k, len(ahead)) and ahead[k][:2] == (part, further)):
                return False
        return True
    return False


def slow_is_bar(lore, rules, thing, cases=()):
    """Judges a bar word by word."""
    if type(thing) is not tuple or not thing or type(thing[0]) is not str:
        return False
    if thing[0] == "ring" and len(thing) == 2 and type(thing[1]) is tuple and thing[1]:
        for k, triple in enumerate(thing[1]):
            if not lets(lore, rules, cases, thing[1][:k], triple):
                return False
        return thing[1][-1][0] == thing[1][-1][1]
    if thing[0] == "cases" and len(thing) == 5:
        _, one, other, tree, other_tree = thing
        sides = [part for rule in rules for side in rule for part in within(side)]
        if not is_term(lore, one) or not is_term(lore, other) or one == other or one not in sides or other not in sides:
            return False
        return slow_is_bar(lore, rules, tree, cases + ((one, other),)) and slow_is_bar(
            lore, rules, other_tree, cases + ((other, one),))
    return False


def barred():
    """Lores and books that have no ranks."""
    lores = [
        FOUR, Lore(WIDE, ((h(A, A), h(B, A)), (h(B, B), h(A, B)))),
        Lore(WIDE, ((f(A), f(B)), (g(B), g(C)), (h(C, C), h(A, A)))),
        Lore(WIDE, ((h(A, B), h(B, A)), (f(A), f(B)), (g(A), g(B)))),
        Lore(WIDE, ((h(A, B), h(C, A)), (h(B, C), h(A, B)), (f(A), f(B)), (g(A), g(C)))),
        Lore(WIDE, ((h(f(A), A), h(f(B), B)), (g(A), g(B)))),
    ] + small_lores(30, 6, 250)
    found = []
    for lore in lores:
        for pick in picks_of(lore)[:8]:
            rules = slow_book(lore, pick)
            if len([1 for rule in rules for _ in rule]) < 15 and ranks(lore, rules) is None:
                found.append((lore, rules))
    return found


def changed(thing, others):
    """Things that differ from a nested tuple in one thing."""
    for k, part in enumerate(thing):
        if type(part) is tuple:
            for other in changed(part, others):
                yield replaced(thing, k, other)
        yield thing[:k] + thing[k + 1:]
        yield thing[:k] + thing[k:k + 1] + thing[k:]
        yield replaced(thing, k, [part])
        for other in others:
            yield replaced(thing, k, other)
        if type(part) is int:
            yield replaced(thing, k, part + 1)
            yield replaced(thing, k, part - 1)
            yield replaced(thing, k, bool(part))
    yield thing[::-1]
    yield list(thing)


OTHERS = (None, 0, 1, 2, "rule", "part", "case", "like", "on", "ring", (), (0,), (None,), A, B, f(A), UP, DOWN, BAR)


class Bars(unittest.TestCase):
    def test_by_hand(self):
        self.assertEqual(book(FOUR, (0, 0, 1, 0)), RULES)
        self.assertIs(is_bar(FOUR, RULES, BAR), True)
        self.assertTrue(slow_is_bar(FOUR, RULES, BAR))
        self.assertIs(is_bar(FOUR, RULES, ("cases", B, A, ("ring", DOWN), ("ring", UP))), True)
        self.assertIs(is_bar(FOUR, RULES, ("cases", B, A, ("ring", UP), ("ring", DOWN))), False)
        self.assertIs(is_bar(FOUR, RULES[::-1], BAR), False)

    def test_none_where_there_are_ranks(self):
        for lore, rules in ((LOOP, ((f(A), A),)), (TWO, book(TWO, (0, 1))), (BARE, ())):
            self.assertIs(bar(lore, rules), None)
            self.assertIs(is_bar(lore, rules, None), False)

    def test_told_bars_are_let(self):
        found = barred()
        deepest = 0
        for lore, rules in found:
            for row in (rules, rules[::-1]):
                thing = bar(lore, row)
                self.assertIs(type(thing), tuple)
                self.assertIs(is_bar(lore, row, thing), True)
                self.assertTrue(slow_is_bar(lore, row, thing))
                deepest = max(deepest, len(repr(thing).split("cases")))
        self.assertGreater(len(found), 10)
        self.assertGreater(deepest, 3)

    def test_what_stands_above_the_upper_one_of_a_case(self):
        # With a above b, f(a) stands above b, so g(f(a)) above g(b); with b above a, h(b, b) above h(a, a).
        lore = Lore(WIDE, ((h(A, A), h(B, B)), (g(B), g(f(A)))))
        rules = ((h(A, A), h(B, B)), (g(B), g(f(A))))
        self.assertIs(ranks(lore, rules), None)
        for row in (rules, rules[::-1]):
            thing = bar(lore, row)
            self.assertIs(is_bar(lore, row, thing), True)
            self.assertTrue(slow_is_bar(lore, row, thing))

    def test_with_one_thing_changed(self):
        random = Random(17)
        seen = {True: 0, False: 0}
        for lore, rules in [(FOUR, RULES)] + barred()[:14]:
            things = list(changed(bar(lore, rules), OTHERS))
            for thing in random.sample(things, min(len(things), 700)):
                flag = is_bar(lore, rules, thing)
                self.assertIs(flag, slow_is_bar(lore, rules, thing), thing)
                seen[flag] += 1
        for thing in changed(BAR, OTHERS):
            self.assertIs(is_bar(FOUR, RULES, thing), slow_is_bar(FOUR, RULES, thing), thing)
        self.assertGreater(seen[False], 4000)
        self.assertGreater(seen[True], 3)

    def test_where_there_are_ranks_nothing_is_a_bar(self):
        rules = book(FOUR, (0, 0, 0, 0))
        self.assertIsNot(ranks(FOUR, rules), None)
        for thing in changed(BAR, OTHERS):
            self.assertIs(is_bar(FOUR, rules, thing), False)

    def test_no_book(self):
        for thing in no_books(FOUR, RULES) + [(), RULES[:1], RULES * 2, ((A, B),)]:
            self.assertRaises(NoBook, bar, FOUR, thing)
            self.assertRaises(NoBook, is_bar, FOUR, thing, BAR)
            self.assertRaises(NoBook, is_bar, FOUR, thing, None)

    def test_equal_calls_give_equal_answers(self):
        self.assertEqual(bar(FOUR, RULES), bar(FOUR, RULES))
        self.assertEqual(RULES, ((f(A), f(B)), (g(B), g(A))))


class Cases(unittest.TestCase):
    def check(self, right, thing):
        self.assertIs(is_bar(FOUR, RULES, thing), right)
        self.assertIs(slow_is_bar(FOUR, RULES, thing), right)

    def test_terms_of_cases(self):
        both = (("ring", UP), ("ring", DOWN))
        self.check(True, ("cases", A, B) + both)
        for one, other in ((A, A), (A, f(f(A))), (g(g(A)), B), (A, C), (A, ["b"]), (A, None), ("a", "b"), (f(A), B)):
            self.check(False, ("cases", one, other) + both)

    def test_terms_of_cases_that_are_not_needed(self):
        self.check(True, ("cases", f(A), B, BAR, BAR))
        self.check(True, ("cases", B, g(A), BAR, BAR))
        for one, other in ((A, A), (g(B), g(B)), (A, f(f(A))), (f(g(B)), A), (A, C), (C, B), (f(f(A)), g(g(A)))):
            self.check(False, ("cases", one, other, BAR, BAR))
            self.check(False, ("cases", A, B, ("cases", one, other, ("ring", UP), ("ring", UP)), ("ring", DOWN)))

    def test_cases_that_are_not_needed(self):
        self.check(True, ("cases", f(A), g(B), BAR, BAR))
        self.check(True, ("cases", A, B, BAR, ("ring", DOWN)))
        self.check(True, ("cases", A, B, ("cases", B, A, ("ring", UP), ("ring", UP)), ("ring", DOWN)))
        both = ((A, B, ("case",)), (B, A, ("case",)), (A, A, ("on", 0, 1)))
        self.check(True, ("cases", A, B, ("cases", B, A, ("ring", both), ("ring", UP)), ("ring", DOWN)))
        self.check(False, ("cases", A, B, ("ring", both), ("ring", DOWN)))

    def test_forms(self):
        for thing in (
            ("ring",), ("ring", UP, UP), ("ring", ()), ("ring", list(UP)), ("cases",), ("cases", A, B, ("ring", UP)),
            BAR + (("ring", UP),), list(BAR), ("case",) + BAR[1:], (b"cases",) + BAR[1:], ("CASES",) + BAR[1:],
            ("cases", A, B, ("ring", UP), None), ("cases", A, B, ["ring", UP], ("ring", DOWN)), ("ring", UP), UP, (BAR,),
        ):
            self.check(False, thing)

    def test_cases_hold_in_their_own_tree_alone(self):
        self.check(False, ("cases", A, B, ("ring", UP), ("ring", UP)))
        self.check(False, ("cases", A, f(A), ("ring", UP), ("ring", UP)))
        self.check(False, ("cases", A, g(A), BAR, ("ring", UP)))


class Logs(unittest.TestCase):
    """Each log stands in the first tree of a bar of FOUR, with a above b."""

    def check(self, right, log):
        thing = ("cases", A, B, ("ring", log), ("ring", DOWN))
        self.assertIs(is_bar(FOUR, RULES, thing), right, log)
        self.assertIs(slow_is_bar(FOUR, RULES, thing), right)

    def with_last(self, right, one, other, reason):
        """Whether a triple may stand behind others; what follows closes the ring."""
        ahead = UP[:3] + ((f(f(A)), f(A), ("part",)), (f(A), A, ("part",)))
        self.check(right, ahead + ((one, other, reason),) + UP[:1] + (UP[1][:2] + (("like", (0,)),),) + (UP[3],))

    def test_reasons(self):
        for one, other, reason in (
            (f(A), f(B), ("rule", 0)), (g(B), g(A), ("rule", 1)), (f(A), A, ("part",)), (g(f(B)), f(B), ("part",)),
            (A, B, ("case",)), (g(A), g(A), ("on", 1, 2)), (f(f(A)), A, ("on", 3, 4)), (f(A), B, ("on", 4, 0)),
            (f(A), f(B), ("like", (0,))), (g(f(f(A))), g(f(A)), ("like", (3,))), (f(g(A)), f(g(B)), ("like", (1,))),
        ):
            self.with_last(True, one, other, reason)

    def test_wrong_reasons(self):
        for one, other, reason in (
            (f(A), f(B), ("rule", 1)), (f(B), f(A), ("rule", 0)), (f(A), f(B), ("rule", 2)), (g(B), g(A), ("rule", -1)),
            (f(A), f(B), ("rule", False)), (f(A), f(B), ("rule",)), (f(A), f(B), ("rule", 0, 0)), (f(A), f(B), ["rule", 0]),
            (f(A), B, ("part",)), (f(f(A)), A, ("part",)), (A, A, ("part",)), (A, f(A), ("part",)), (f(A), A, ("part", 0)),
            (B, A, ("case",)), (A, B, ("case", 0)), (A, A, ("case",)), (f(A), f(B), ("case",)),
            (f(f(A)), A, ("on", 4, 3)), (f(f(A)), A, ("on", 3, 5)), (f(f(A)), A, ("on", 3)), (f(f(A)), A, ("on", 3, -1)),
            (f(f(A)), B, ("on", 3, 4)), (f(A), A, ("on", 3, 4)), (f(A), B, ("on", 4, False)), (g(A), g(A), ("on", True, 2)),
            (f(A), f(B), ("like", (1,))), (f(B), f(A), ("like", (0,))), (f(A), g(B), ("like", (0,))),
            (f(A), f(B), ("like", (None,))), (f(A), f(A), ("like", (None,))), (A, A, ("like", ())), (A, B, ("like", ())),
            (f(A), f(B), ("like", (0, 0))), (f(A), f(B), ("like", ())), (f(A), f(B), ("like", [0])), (f(A), f(B), ("like", 0)),
            (f(A), f(B), ("like", (False,))), (f(A), f(B), ("like", (9,))), (f(A), f(B), ("like", (-5,))),
            (A, A, ("same",)), (A, A, ()), (A, A, "case"), (A, A, None), (A, A, (None,)), (A, A, (b"case",)),
        ):
            self.with_last(False, one, other, reason)

    def test_numbers_that_are_not_ahead(self):
        self.check(False, ((A, A, ("on", 0, 0)),))
        self.check(False, ((f(A), f(A), ("like", (0,))),))
        self.check(False, UP[:3] + ((g(A), g(A), ("on", 1, 3)),))
        self.check(False, (UP[0], (g(A), g(B), ("like", (1,)))) + UP[2:])

    def test_the_last_triple_has_one_term_twice(self):
        self.check(True, UP)
        self.check(False, UP[:3])
        self.check(False, UP + UP[:1])
        self.check(True, UP + UP[:1] + UP[3:])
        self.check(False, ())

    def test_signs_with_two_places(self):
        lore = Lore(WIDE, ((f(A), f(B)), (h(A, C), h(B, C))))
        rules = ((f(A), f(B)), (h(B, C), h(A, C)))
        self.assertIs(ranks(lore, rules), None)
        down = ((B, A, ("case",)), (f(B), f(A), ("like", (0,))), (f(A), f(B), ("rule", 0)), (f(A), f(A), ("on", 2, 1)))
        for ks, right in (
            ((0, None), True), ((0, 0), False), ((None, None), False), ((None, 0), False), ((0,), False), ((0, None, None), False),
            ((0, False), False), ([0, None], False), ((1, None), False), (0, False),
        ):
            up = ((A, B, ("case",)), (h(A, C), h(B, C), ("like", ks)), (h(B, C), h(A, C), ("rule", 1)), (
                h(A, C), h(A, C), ("on", 1, 2)))
            thing = ("cases", A, B, ("ring", up), ("ring", down))
            self.assertIs(is_bar(lore, rules, thing), right, ks)
            self.assertIs(slow_is_bar(lore, rules, thing), right)

    def test_one_term_twice_ahead_is_no_reason_at_a_place(self):
        lore = Lore(WIDE, ((f(A), f(B)), (g(A), g(B))))
        log = UP + ((h(g(A), A), h(g(A), B), ("like", (3, 0))), UP[3])
        self.assertIs(is_bar(lore, RULES, ("cases", A, B, ("ring", log), ("ring", DOWN))), False)
        log = UP + ((h(g(A), A), h(g(A), B), ("like", (None, 0))), UP[3])
        self.assertIs(is_bar(lore, RULES, ("cases", A, B, ("ring", log), ("ring", DOWN))), True)


class OddThings(unittest.TestCase):
    def test_what_is_no_bar(self):
        things = odd_things() + [nested(lambda part: ("cases", A, B, part, part), 7), nested(lambda part: ("ring", part), 59)]
        things += [nested(lambda part: ("cases", A, B, part, ("ring", UP)), 57)]
        for thing in things:
            self.assertIs(is_bar(FOUR, RULES, thing), False)
            self.assertIs(is_bar(FOUR, RULES, ("ring", thing)), False)
            self.assertIs(is_bar(FOUR, RULES, ("cases", A, B, ("ring", UP), thing)), False)
            self.assertIs(is_bar(FOUR, RULES, ("cases", A, B, ("ring", thing), ("ring", DOWN))), False)
            self.assertIs(is_bar(FOUR, RULES, ("cases", thing, B, ("ring", UP), ("ring", DOWN))), thing == A)
            self.assertIs(is_bar(FOUR, RULES, ("cases", A, thing, ("ring", UP), ("ring", DOWN))), False)
            for k in range(4):
                log = replaced(UP, k, thing)
                self.assertIs(is_bar(FOUR, RULES, ("cases", A, B, ("ring", log), ("ring", DOWN))), False)
                for at in range(3):
                    log = replaced(UP, k, replaced(UP[k], at, thing))
                    right = UP[k][at] == A and thing == A
                    self.assertIs(is_bar(FOUR, RULES, ("cases", A, B, ("ring", log), ("ring", DOWN))), right)

    def test_sixty_deep(self):
        thing = BAR
        for _ in range(54):
            thing = ("cases", f(A), g(B), thing, BAR)
        self.assertIs(is_bar(FOUR, RULES, thing), True)
        thing = replaced(BAR, 3, ("ring", UP[:-1]))
        for _ in range(54):
            thing = ("cases", f(A), g(B), thing, BAR)
        self.assertIs(is_bar(FOUR, RULES, thing), False)
        deep = chain("f", 54, A)
        log = UP + ((f(deep), deep, ("part",)),) + UP
        renumbered = log[:5] + ((A, B, ("case",)), (g(A), g(A), ("on", 1, 2)))
        self.assertIs(is_bar(FOUR, RULES, ("cases", A, B, ("ring", renumbered), ("ring", DOWN))), True)

    def test_great_terms_need_no_recursion(self):
        deep = chain("f", 2000, A)
        log = ((f(deep), deep, ("part",)),) + ((A, B, ("case",)), (g(A), g(B), ("like", (1,)))) + (
            UP[2], (g(A), g(A), ("on", 2, 3)))
        self.assertIs(is_bar(FOUR, RULES, ("cases", A, B, ("ring", log), ("ring", DOWN))), True)


if __name__ == "__main__":
    unittest.main()

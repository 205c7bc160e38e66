"""Promise 2.3: papers."""

import unittest
from random import Random

from neatbooks.changing import with_line
from neatbooks.errors import NoTerm
from neatbooks.lores import Lore, is_term
from neatbooks.papers import is_paper, paper
from tests.samples import A, B, BARE, C, FOUR, LOOP, REST, TWICE, TWO, WIDE, are_equal, chain, f, g, h, nested
from tests.samples import odd_things, replaced, sixty_lines, some_lores, some_term


def number_below(thing, limit):
    return type(thing) is int and 0 <= thing < limit


def holds(lore, ahead, triple):
    """Whether a triple of two terms may stand behind those ahead, word by word as the document says."""
    one, other, reason = triple
    if type(reason) is not tuple or not reason or type(reason[0]) is not str:
        return False
    word, rest = reason[0], reason[1:]
    if word == "line" and len(rest) == 1:
        return number_below(rest[0], len(lore.lines)) and lore.lines[rest[0]] == (one, other)
    if word == "same" and len(rest) == 0:
        return one == other
    if word == "turn" and len(rest) == 1:
        return number_below(rest[0], len(ahead)) and ahead[rest[0]][:2] == (other, one)
    if word == "on" and len(rest) == 2 and all(number_below(k, len(ahead)) for k in rest):
        k, m = rest
        return ahead[k][0] == one and ahead[k][1] == ahead[m][0] and ahead[m][1] == other
    if word == "like" and len(rest) == 1 and type(rest[0]) is tuple and one[0] == other[0]:
        if len(rest[0]) != len(one) - 1 or not all(number_below(k, len(ahead)) for k in rest[0]):
            return False
        return all(ahead[k][:2] == (p, q) for k, p, q in zip(rest[0], one[1:], other[1:]))
    return False


def slow_is_paper(lore, term, other_term, thing):
    """Judges a paper word by word."""
    if type(thing) is not list or not thing:
        return False
    for number, triple in enumerate(thing):
        if type(triple) is not tuple or len(triple) != 3:
            return False
        if not is_term(lore, triple[0]) or not is_term(lore, triple[1]) or not holds(lore, thing[:number], triple):
            return False
    return thing[-1][:2] == (term, other_term)


def changed(rows):
    """Papers that differ from a paper in one thing."""
    for number, (one, other, reason) in enumerate(rows):
        yield replaced(rows, number, (other, one, reason))
        yield replaced(rows, number, (one, one, reason))
        yield replaced(rows, number, (B, other, reason))
        yield replaced(rows, number, (one, B, reason))
        yield replaced(rows, number, [one, other, reason])
        yield replaced(rows, number, (one, other))
        yield replaced(rows, number, (one, other, reason, reason))
        yield rows[:number] + rows[number + 1:]
        for other_reason in changed_reasons(reason):
            yield replaced(rows, number, (one, other, other_reason))


def changed_reasons(reason):
    """Reasons that differ from a reason in one thing."""
    for word in ("line", "same", "turn", "on", "like", "", None, b"line"):
        yield replaced(reason, 0, word)
    yield list(reason)
    yield reason + (0,)
    yield reason[:-1]
    for at in range(1, len(reason)):
        parts = [-1, 0, 1, 2, 3, 99, True, False, None, "0", (), (0,), (1,), (0, 0), (0, 1), (1, 0), [0], [0, 1], (True,)]
        if isinstance(reason[at], int):
            parts += [reason[at] - 1, reason[at] + 1]
        else:
            parts += [reason[at][::-1], reason[at] + (0,), list(reason[at])]
        for part in parts:
            yield replaced(reason, at, part)


class Papers(unittest.TestCase):
    def check(self, lore, one, other):
        rows = paper(lore, one, other)
        self.assertIs(type(rows), list)
        self.assertIs(is_paper(lore, one, other, rows), True)
        self.assertTrue(slow_is_paper(lore, one, other, rows))
        return rows

    def test_equal_terms(self):
        for lore, one, other in (
            (TWO, A, f(B)), (TWO, f(f(A)), A), (LOOP, A, chain("f", 5, A)), (LOOP, chain("f", 7, A), f(A)),
            (TWICE, A, f(A)), (FOUR, g(f(A)), g(f(B))), (BARE, f(A), f(A)), (REST, f(f(B)), B),
            (Lore(WIDE, ((A, B), (C, B))), h(A, h(B, C)), h(C, h(C, A))),
        ):
            self.check(lore, one, other)
            self.check(lore, other, one)
            self.check(lore, one, one)

    def test_unequal_terms(self):
        for lore, one, other in ((TWO, A, B), (BARE, A, B), (FOUR, A, B), (FOUR, f(A), g(A)), (REST, A, f(B))):
            self.assertIs(paper(lore, one, other), None)
            self.assertIs(is_paper(lore, one, other, [(one, other, ("same",))]), False)

    def test_many_terms(self):
        random = Random(5)
        for lore in some_lores(60, 5):
            for _ in range(5):
                one = some_term(random, lore.signs, 4)
                other = some_term(random, lore.signs, 4)
                if are_equal(lore, one, other):
                    self.check(lore, one, other)
                else:
                    self.assertIs(paper(lore, one, other), None)
            for one, other in lore.lines:
                self.check(lore, one, other)
                self.check(lore, other, one)

    def test_great_terms(self):
        lore = Lore(WIDE, ((A, f(B)), (h(A, B), g(C)), (B, h(C, C)), (C, A)))
        one, other = chain("g", 29, A), chain("g", 29, f(h(C, A)))
        self.check(lore, one, other)
        one, other = h(A, B), h(C, h(A, A))
        for _ in range(5):
            one, other = h(one, g(other)), h(other, g(one))
        self.check(lore, one, other)
        self.check(TWO, chain("f", 29, A), chain("f", 28, B))
        self.assertIs(paper(TWO, chain("f", 29, A), chain("f", 29, B)), None)
        for one, other in sixty_lines():
            self.check(Lore(WIDE, sixty_lines()), h(one, B), h(other, A))

    def test_great_terms_need_no_recursion(self):
        rows = paper(TWO, chain("f", 1500, A), A)
        self.assertTrue(is_paper(TWO, chain("f", 1500, A), A, rows))
        self.assertTrue(is_paper(with_line(LOOP, (A, A)), A, A, paper(LOOP, A, A)))

    def test_new_each_time_and_the_same(self):
        one, other = paper(TWO, f(f(A)), A), paper(TWO, f(f(A)), A)
        self.assertEqual(one, other)
        self.assertIsNot(one, other)
        one.clear()
        self.assertEqual(paper(TWO, f(f(A)), A), other)

    def test_no_term(self):
        for thing in odd_things() + [C, ("f",), f(C), ["a"], chain("f", 57, ["a"])]:
            if thing != A:
                for call in (
                    lambda: paper(TWO, thing, A), lambda: paper(TWO, A, thing),
                    lambda: is_paper(TWO, thing, A, []), lambda: is_paper(TWO, A, thing, None),
                ):
                    self.assertRaises(NoTerm, call)


class Judged(unittest.TestCase):
    def test_reason_by_reason(self):
        ahead = [(f(A), B, ("line", 0)), (B, f(A), ("turn", 0)), (f(B), A, ("line", 1)), (A, A, ("same",))]
        ahead += [(f(f(A)), f(B), ("like", (0,))), (f(f(A)), A, ("on", 4, 2)), (A, A, ("like", ()))]
        for end in range(1, len(ahead) + 1):
            one, other, _ = ahead[end - 1]
            self.assertIs(is_paper(TWO, one, other, ahead[:end]), True)
        for one, other, reason in (
            (f(A), B, ("line", 1)), (B, f(A), ("line", 0)), (f(A), B, ("line", 2)), (f(A), B, ("line", -2)),
            (f(A), B, ("line", False)), (A, B, ("same",)), (A, A, ("same", 0)), (f(A), B, ("turn", 0)),
            (B, f(A), ("turn", 7)), (B, f(A), ("turn", -7)), (B, f(A), ("turn", False)), (f(f(A)), A, ("on", 2, 4)),
            (f(f(A)), A, ("on", 4)), (f(f(A)), B, ("on", 4, 2)), (f(B), A, ("on", 4, 2)), (f(f(A)), A, ("on", 4, 7)),
            (f(f(A)), f(B), ("like", (1,))), (f(f(A)), f(B), ("like", [0])), (f(f(A)), f(B), ("like", (False,))),
            (f(f(A)), f(B), ("like", 0)), (f(f(A)), f(B), ("like", (0, 0))), (f(f(A)), f(B), ("like", ())),
            (A, B, ("like", ())), (A, f(A), ("like", (3,))), (f(f(A)), f(B), ("like", (-7,))), (A, A, ("SAME",)),
            (A, A, ()), (A, A, "same"), (A, A, ["same"]), (A, A, None), (A, A, (b"same",)), (A, A, (("same",),)),
        ):
            self.assertIs(is_paper(TWO, one, other, ahead + [(one, other, reason)]), False, (one, other, reason))

    def test_a_sign_with_two_places(self):
        lore = Lore(WIDE, ((A, B), (B, C)))
        ahead = [(A, B, ("line", 0)), (B, C, ("line", 1))]
        self.assertTrue(is_paper(lore, h(A, B), h(B, C), ahead + [(h(A, B), h(B, C), ("like", (0, 1)))]))
        self.assertFalse(is_paper(lore, h(A, B), h(B, C), ahead + [(h(A, B), h(B, C), ("like", (1, 0)))]))
        self.assertTrue(is_paper(lore, h(A, A), h(B, B), ahead + [(h(A, A), h(B, B), ("like", (0, 0)))]))
        self.assertFalse(is_paper(lore, h(A, A), h(B, B), ahead + [(h(A, A), h(B, B), ("like", (0,)))]))

    def test_the_last_one_is_of_the_two(self):
        rows = [(f(A), B, ("line", 0)), (B, f(A), ("turn", 0))]
        self.assertTrue(is_paper(TWO, B, f(A), rows))
        for one, other in ((f(A), B), (B, B), (f(A), f(A)), (f(B), A)):
            self.assertFalse(is_paper(TWO, one, other, rows))

    def test_a_triple_may_stand_that_is_not_needed(self):
        self.assertTrue(is_paper(TWO, f(A), B, [(A, A, ("same",)), (f(A), B, ("line", 0))]))

    def test_with_one_thing_changed(self):
        random = Random(8)
        seen = {True: 0, False: 0}
        for lore in some_lores(45):
            one = some_term(random, lore.signs, 3)
            for two, other in ((one, some_term(random, lore.signs, 3)),) + lore.lines[-1:]:
                rows = paper(lore, two, other)
                for thing in changed(rows or []):
                    flag = is_paper(lore, two, other, thing)
                    self.assertIs(flag, slow_is_paper(lore, two, other, thing), thing)
                    seen[flag] += 1
        self.assertTrue(seen[True] > 20 and seen[False] > 1000)

    def test_what_is_no_paper(self):
        for thing in odd_things() + [((A, A, ("same",)),), nested(lambda part: [part], 59), [(A, A, nested(
                lambda part: ("on", part, part), 9))], [(chain("f", 57, ["a"]), A, ("same",))]]:
            self.assertIs(is_paper(TWO, A, A, thing), False)
            self.assertIs(is_paper(TWO, A, A, [thing]), False)
            self.assertIs(is_paper(TWO, A, A, [(A, A, thing)]), False)
            self.assertIs(is_paper(TWO, A, A, [(A, A, ("like", thing))]), thing == ())
            self.assertIs(is_paper(TWO, f(A), f(A), [(A, A, ("same",)), (f(A), f(A), ("like", thing))]), thing == (0,))
            for word in ("line", "turn", "same", "on"):
                self.assertIs(is_paper(TWO, A, A, [(A, A, (word, thing))]), False)
            if thing != A:
                self.assertIs(is_paper(TWO, A, A, [(A, thing, ("same",))]), False)
                self.assertIs(is_paper(TWO, A, A, [(thing, A, ("same",))]), False)

    def test_nested_sixty_deep(self):
        term = chain("f", 56, A)
        self.assertIs(is_paper(LOOP, term, term, [(term, term, ("same",))]), True)
        self.assertIs(is_paper(LOOP, A, A, [(A, A, ("like", nested(lambda part: (part,), 56)))]), False)

    def test_the_thing_is_not_changed(self):
        rows = [(f(A), B, ("line", 0))]
        is_paper(TWO, f(A), B, rows)
        self.assertEqual(rows, [(f(A), B, ("line", 0))])


if __name__ == "__main__":
    unittest.main()

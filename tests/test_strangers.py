"""Promise 14.3: judges of equality put to the test."""

import unittest
from itertools import combinations

from neatbooks.errors import NoAnswer
from neatbooks.hall import equal
from neatbooks.lores import Lore, told_terms
from neatbooks.strangers import wrong_judge
from tests.samples import A, B, BARE, FOUR, LOOP, TWICE, TWO, WIDE, are_equal, chain, f, h, odd_things, sixty_lines
from tests.samples import some_lores, told


def pairs_of(lore):
    """The list of all pairs of told terms, the lower one first, ascending."""
    return list(combinations(told(lore.lines), 2))


class Judge:
    """A judge that is right but for some pairs, and that notes which pairs it is asked of."""

    def __init__(self, lore, says):
        self.lore = lore
        self.says = says
        self.asked = []

    def __call__(self, one, other):
        self.asked.append((one, other))
        if (one, other) in self.says:
            return self.says[one, other]
        return equal(self.lore, one, other)


LORES = [lore for lore in [TWO, FOUR, LOOP, TWICE] + some_lores(40, 3, 3) if len(pairs_of(lore)) > 1]


class WrongJudge(unittest.TestCase):
    def check(self, lore, says, expected, asked):
        """Checks what a judge comes to that says other things of some pairs, and which pairs it is asked of."""
        judge = Judge(lore, says)
        self.assertEqual(wrong_judge(lore, judge), expected)
        self.assertEqual(judge.asked, asked)

    def check_no_answer(self, lore, says, pair):
        judge = Judge(lore, says)
        with self.assertRaises(NoAnswer) as caught:
            wrong_judge(lore, judge)
        self.assertEqual((caught.exception.one, caught.exception.other), pair)
        self.assertEqual(judge.asked, pairs_of(lore)[:pairs_of(lore).index(pair) + 1])

    def test_right_judges(self):
        for lore in LORES:
            self.check(lore, {}, None, pairs_of(lore))
            self.assertIs(wrong_judge(lore, lambda one, other: are_equal(lore, one, other)), None)
        for lore in (BARE, Lore(WIDE, ((A, A),))):
            self.check(lore, {}, None, [])

    def test_by_hand(self):
        asked = []

        def never(one, other):
            asked.append((one, other))
            return False

        self.assertEqual(wrong_judge(TWO, never), (A, f(B)))
        self.assertEqual(asked, [(A, B), (A, f(A)), (A, f(B))])
        self.assertEqual(wrong_judge(TWO, lambda one, other: True), (A, B))
        self.assertEqual(wrong_judge(FOUR, lambda one, other: one[0] == other[0] != "g"), (("g", A), ("g", B)))

    def test_wrong_for_one(self):
        for lore in LORES:
            pairs = pairs_of(lore)
            for k in {0, 1, len(pairs) // 2, len(pairs) - 1}:
                says = {pairs[k]: not are_equal(lore, *pairs[k])}
                self.check(lore, says, pairs[k], pairs[:k + 1])

    def test_wrong_for_several(self):
        for lore in LORES:
            pairs = pairs_of(lore)
            for k in range(0, len(pairs), 1 + len(pairs) // 6):
                says = {pair: not are_equal(lore, *pair) for pair in pairs[k:]}
                self.check(lore, says, pairs[k], pairs[:k + 1])

    def test_no_flag(self):
        for thing in odd_things() + [0, 1, "True", (True,), [True], None]:
            if type(thing) is not bool:
                self.check_no_answer(TWO, {(B, f(A)): thing}, (B, f(A)))

    def test_no_flag_ahead_of_or_behind_a_wrong_one(self):
        for lore in LORES:
            pairs = pairs_of(lore)
            wrong = not are_equal(lore, *pairs[1])
            self.check_no_answer(lore, {pairs[0]: None, pairs[1]: wrong}, pairs[0])
            self.check(lore, {pairs[0]: not are_equal(lore, *pairs[0]), pairs[1]: 1}, pairs[0], pairs[:1])
            for pair in pairs[2:8]:
                self.check(lore, {pair: 0, pairs[1]: wrong}, pairs[1], pairs[:2])
                self.check_no_answer(lore, {pair: 0, pairs[-1]: None}, pair)

    def test_errors_go_on(self):
        class Odd(Exception):
            pass

        for error in (Odd, KeyError, ValueError, NoAnswer, StopIteration, IndexError):
            asked = []

            def fails(one, other):
                asked.append((one, other))
                if (one, other) == (A, f(B)):
                    raise error(*[one, other][:2 * (error is NoAnswer)])
                return equal(TWO, one, other)

            with self.assertRaises(error) as caught:
                wrong_judge(TWO, fails)
            self.assertIs(type(caught.exception), error)
            self.assertEqual(asked, [(A, B), (A, f(A)), (A, f(B))])

    def test_by_the_order_of_terms(self):
        lore = Lore(WIDE, ((h(A, B), f(f(f(A)))), (("g", A), ("c",))))
        judge = Judge(lore, {})
        wrong_judge(lore, judge)
        terms = list(told_terms(lore))
        self.assertEqual(judge.asked, [(one, other) for one in terms for other in terms[terms.index(one) + 1:]])

    def test_sixty_told_terms(self):
        lore = Lore(WIDE, sixty_lines())
        last = (chain("f", 29, A), chain("g", 29, A))
        self.check(lore, {}, None, pairs_of(lore))
        self.check(lore, {last: False}, last, pairs_of(lore))
        self.assertEqual((len(pairs_of(lore)), pairs_of(lore)[-1]), (1770, last))

    def test_equal_calls_give_equal_answers(self):
        lore = Lore(TWO.signs, TWO.lines)
        for _ in range(2):
            self.assertEqual(wrong_judge(lore, lambda one, other: one == A), (A, B))
        self.assertEqual(lore, TWO)


if __name__ == "__main__":
    unittest.main()

"""Promises 8.1 and 8.3: ranks, numbers by ranks, and how many books have ranks."""

import unittest
from itertools import permutations
from random import Random

from neatbooks.bars import bar
from neatbooks.books import book
from neatbooks.changing import with_line
from neatbooks.counting import count_picks
from neatbooks.errors import NoBook, NoRanks, NoTerm, TooMany
from neatbooks.lores import Lore
from neatbooks.orders import count_ordered, is_ranks, number_by, ranks
from tests.samples import A, B, BARE, C, FOUR, LOOP, ONE, REST, TWO, WIDE, chain, changed_books, f, g, greatest_pick
from tests.samples import h, layers, no_books, odd_things, picks_of, row_of_signs, slow_book, slow_fault, small_lores
from tests.samples import some_term, within

RULES = ((B, f(A)), (f(f(A)), A))
ORDER = [A, f(A), f(f(A)), B]


def terms_of(rules):
    """The list of the terms within the sides of some rules."""
    found = {}
    for rule in rules:
        for side in rule:
            found.update(within(side))
    return list(found)


def is_right_order(rules, order):
    """Whether a list of terms is in an order as ranks are, word by word as the document says."""
    at = {term: place for place, term in enumerate(order)}
    if any(at[left] < at[right] for left, right in rules):
        return False
    if any(at[term] < at[part] for term in order for part in term[1:]):
        return False
    for one in order:
        for other in order:
            if one[0] == other[0] and one != other:
                pairs = [(at[part], at[further]) for part, further in zip(one[1:], other[1:])]
                if all(p >= q for p, q in pairs) and any(p > q for p, q in pairs) and at[one] < at[other]:
                    return False
    return True


def slow_is_ranks(rules, thing):
    """Judges ranks word by word, all things in them being terms."""
    if type(thing) not in (list, tuple) or sorted(thing, key=repr) != sorted(terms_of(rules), key=repr):
        return False
    return is_right_order(rules, thing)


def small_books(most_terms):
    """Pairs of lores and books with few terms."""
    found = []
    for lore in [LOOP, TWO, FOUR, ONE, REST, BARE, row_of_signs(3, True)] + small_lores(30, 6, 250):
        for pick in picks_of(lore)[:4]:
            rules = slow_book(lore, pick)
            if len(terms_of(rules)) <= most_terms:
                found.append((lore, rules))
    return found


def slow_number(lore, order, term):
    """The number of a term by ranks, word by word as the document says."""
    base = 2 + max(places for _, places in lore.signs)
    if term in order:
        return base ** (order.index(term) + 1)
    x = [slow_number(lore, order, part) for part in term[1:]]
    found = [sum(x) + 1]
    for other in order:
        if other[0] == term[0]:
            p = [slow_number(lore, order, part) for part in other[1:]]
            if all(one <= two for one, two in zip(p, x)):
                found.append(slow_number(lore, order, other) + sum(x) - sum(p))
    return max(found)


class Ranks(unittest.TestCase):
    def test_examples(self):
        self.assertEqual(book(TWO, (0, 1)), RULES)
        self.assertIs(is_ranks(TWO, RULES, ORDER), True)
        self.assertIs(is_ranks(TWO, RULES, tuple(ORDER)), True)
        self.assertEqual(ranks(LOOP, ((f(A), A),)), [A, f(A)])
        self.assertEqual(ranks(BARE, ()), [])
        self.assertIs(is_ranks(BARE, (), []), True)
        self.assertIs(is_ranks(BARE, (), ()), True)
        self.assertIs(is_ranks(BARE, (), [A]), False)
        self.assertIs(ranks(FOUR, book(FOUR, (0, 0, 0, 1))), None)

    def test_order_by_order(self):
        seen = {True: 0, False: 0}
        for lore, rules in small_books(6):
            right = 0
            for order in permutations(terms_of(rules)):
                flag = is_right_order(rules, order)
                self.assertIs(is_ranks(lore, rules, order), flag)
                right += flag
            found = ranks(lore, rules)
            self.assertEqual(found is not None, right > 0)
            self.assertEqual(bar(lore, rules) is None, right > 0)
            if found is not None:
                self.assertIs(type(found), list)
                self.assertTrue(slow_is_ranks(rules, found))
            seen[right > 0] += 1
        self.assertGreater(seen[True], 40)
        self.assertGreater(seen[False], 1)

    def test_just_one_of_ranks_and_bar(self):
        seen = {True: 0, False: 0}
        for lore, rules in small_books(14):
            found = ranks(lore, rules)
            self.assertIs(bar(lore, rules) is None, found is not None)
            if found is not None:
                self.assertTrue(slow_is_ranks(rules, found))
                self.assertIs(is_ranks(lore, rules, found), True)
                self.assertIs(is_ranks(lore, rules[::-1], found), True)
            self.assertIs(ranks(lore, rules[::-1]) is None, found is None)
            seen[found is not None] += 1
        self.assertGreater(seen[True], 200)
        self.assertGreater(seen[False], 1)

    def test_of_two_terms_with_two_places(self):
        # h(a, b) stands above h(b, a), so a and b must not stand at both places alike.
        lore = Lore(WIDE, ((h(A, B), h(B, A)), (h(A, C), h(C, A)), (h(B, C), h(C, B))))
        for pick in picks_of(lore):
            self.assertTrue(slow_is_ranks(book(lore, pick), ranks(lore, book(lore, pick))))
        bad = Lore(WIDE, ((h(A, A), h(B, A)), (h(B, B), h(A, B))))
        self.assertEqual([ranks(bad, book(bad, pick)) is None for pick in picks_of(bad)], [False, True, True, False])

    def test_with_one_thing_changed(self):
        random = Random(2)
        for lore, rules in small_books(9)[:120]:
            found = ranks(lore, rules)
            for order in changed_orders(random, found if found is not None else terms_of(rules)):
                self.assertIs(is_ranks(lore, rules, order), slow_is_ranks(rules, order), order)

    def test_what_are_no_ranks(self):
        for thing in odd_things() + [[A, f(A), f(f(A))], ORDER + [A], ORDER[::-1], {term: 0 for term in ORDER}, "abf"]:
            self.assertIs(is_ranks(TWO, RULES, thing), False)
        for thing in odd_things() + [["b"], ["f", A], ("f", "a"), C, ("f",), chain("f", 57, ["a"]), chain("f", 58, A)]:
            if thing != A:
                self.assertIs(is_ranks(TWO, RULES, [thing] + ORDER[1:]), False)
            self.assertIs(is_ranks(TWO, RULES, ORDER[:3] + [thing]), False)
            self.assertIs(is_ranks(TWO, RULES, ORDER + [thing]), False)

    def test_no_book(self):
        for thing in no_books(TWO, RULES) + [(), RULES[:1], RULES * 2, ((A, B),)]:
            self.assertRaises(NoBook, ranks, TWO, thing)
            self.assertRaises(NoBook, is_ranks, TWO, thing, ORDER)
            self.assertRaises(NoBook, is_ranks, TWO, thing, None)
        for lore, rules in small_books(6)[:20]:
            for thing in changed_books(lore, rules):
                if slow_fault(lore, thing) is not None:
                    self.assertRaises(NoBook, ranks, lore, thing)

    def test_fourteen_terms_and_fifteen(self):
        lore = Lore(LOOP.signs, ((chain("f", 13, A), A),))
        self.assertEqual(ranks(lore, book(lore, (0,) * 13)), [chain("f", k, A) for k in range(14)])
        lore = Lore(LOOP.signs, ((chain("f", 14, A), A),))
        rules = book(lore, (0,) * 14)
        for call in (ranks, bar):
            with self.assertRaises(TooMany) as caught:
                call(lore, rules)
            self.assertEqual(caught.exception.most, 14)
            self.assertRaises(NoBook, call, lore, rules * 2)
        order = [chain("f", k, A) for k in range(15)]
        self.assertIs(is_ranks(lore, rules, order), True)
        self.assertIs(is_ranks(lore, rules, order[::-1]), False)
        self.assertEqual(number_by(lore, rules, order, order[14]), 3 ** 15)

    def test_fourteen_terms_with_many_orders(self):
        names = "abcde"
        pairs = [(h((one,), (other,)), h((other,), (one,))) for one, other in zip(names, names[1:])]
        signs = tuple((name, 0) for name in names) + (("h", 2),)
        lore = Lore(signs, tuple(pairs))
        for pick in picks_of(lore):
            rules = book(lore, pick)
            self.assertEqual(len(terms_of(rules)), 13)
            self.assertTrue(slow_is_ranks(rules, ranks(lore, rules)))

    def test_new_each_time(self):
        one, other = ranks(TWO, RULES), ranks(TWO, RULES)
        self.assertEqual(one, other)
        self.assertIsNot(one, other)
        one.clear()
        self.assertEqual(ranks(TWO, RULES), other)

    def test_great_books(self):
        lore = with_line(LOOP, (chain("f", 400, A), f(f(A))))
        self.assertEqual(ranks(lore, ((f(A), A),)), [A, f(A)])
        lore = with_line(Lore(LOOP.signs, ()), (chain("f", 1200, A), A))
        rules = ((chain("f", 1200, A), A),)
        self.assertIs(is_ranks(lore, rules, [chain("f", k, A) for k in range(1201)]), True)


def changed_orders(random, order):
    """Orders that differ from an order in one thing."""
    yield list(order)
    yield tuple(order)
    yield list(order)[::-1]
    for _ in range(6):
        row = list(order)
        random.shuffle(row)
        yield row
    for k in range(len(order)):
        yield order[:k] + order[k + 1:]
        yield order[:k] + order[k:k + 1] + order[k:]
        yield order[:k] + [order[0]] + order[k + 1:]
        yield order[:k] + [("f", order[k])] + order[k + 1:]
        yield order[:k] + order[k + 1:k + 2] + order[k:k + 1] + order[k + 2:]
        yield order[:k] + [C] + order[k + 1:]


class NumberBy(unittest.TestCase):
    def test_by_hand(self):
        # B is 3: the numbers of a, f(a), f(f(a)), b are 3, 9, 27, 81.
        self.assertEqual([number_by(TWO, RULES, ORDER, term) for term in ORDER], [3, 9, 27, 81])
        self.assertEqual(number_by(TWO, RULES, ORDER, f(f(f(A)))), 45)
        self.assertEqual(number_by(TWO, RULES, ORDER, f(B)), 99)
        self.assertEqual(number_by(TWO, RULES, ORDER, f(f(B))), 117)
        self.assertEqual(number_by(BARE, (), [], f(g(A))), 3)
        self.assertEqual(number_by(BARE, (), (), A), 1)
        lore = Lore(WIDE, ((h(A, B), C),))
        rules = ((h(A, B), C),)
        order = [A, B, C, h(A, B)]
        self.assertEqual([number_by(lore, rules, order, term) for term in order], [4, 16, 64, 256])
        self.assertEqual(number_by(lore, rules, order, h(A, A)), 9)
        self.assertEqual(number_by(lore, rules, order, h(B, B)), 268)
        self.assertEqual(number_by(lore, rules, order, h(B, A)), 21)
        self.assertEqual(number_by(lore, rules, order, g(h(A, B))), 257)
        signs = (("a", 0), ("b", 0))
        self.assertEqual(number_by(Lore(signs, ((A, B),)), ((B, A),), [A, B], B), 4)

    def test_word_by_word(self):
        random = Random(12)
        for lore, rules in small_books(9):
            order = ranks(lore, rules)
            if order is not None:
                for term in [some_term(random, lore.signs, 4) for _ in range(4)] + order[:3]:
                    self.assertEqual(number_by(lore, rules, order, term), slow_number(lore, order, term))
                    self.assertEqual(number_by(lore, rules, tuple(order), term), slow_number(lore, order, term))

    def test_it_falls_and_rises(self):
        random = Random(13)
        for lore, rules in small_books(9)[::2]:
            order = ranks(lore, rules)
            if order is None:
                continue

            def number(term):
                return number_by(lore, rules, order, term)

            terms = order[-3:] + [some_term(random, lore.signs, 4) for _ in range(3)]
            pairs = [(left, right) for left, right in rules]
            pairs += [(one, other) for one in terms for other in terms if number(one) > number(other)]
            for _ in range(3):
                pairs += self.around(random, lore, pairs)[:40]
            for high, low in pairs:
                self.assertGreater(number(high), number(low))
            for term in terms:
                for part in term[1:]:
                    self.assertGreater(number(term), number(part))

    def around(self, random, lore, pairs):
        """Pairs of terms put into one surrounding."""
        found = []
        for high, low in random.sample(pairs, min(8, len(pairs))):
            for sign, places in lore.signs:
                if places == 1:
                    found.append(((sign, high), (sign, low)))
                if places == 2:
                    other = some_term(random, lore.signs, 3)
                    found.append(((sign, high, other), (sign, low, other)))
                    found.append(((sign, other, high), (sign, other, low)))
        return found

    def test_errors_in_their_order(self):
        for thing in no_books(TWO, RULES)[:40] + [(), RULES[:1]]:
            self.assertRaises(NoBook, number_by, TWO, thing, None, None)
        for thing in odd_things() + [ORDER[1:], ORDER[::-1], ORDER + [A], [A, B, f(A), f(f(A))], [A] * 4]:
            self.assertRaises(NoRanks, number_by, TWO, RULES, thing, None)
        for thing in odd_things() + [C, ("f",), ["a"], chain("f", 57, ["a"])]:
            if thing != A:
                self.assertRaises(NoTerm, number_by, TWO, RULES, ORDER, thing)

    def test_great_terms(self):
        self.assertEqual(number_by(TWO, RULES, ORDER, chain("f", 29, A)), slow_number(TWO, ORDER, chain("f", 29, A)))
        self.assertEqual(number_by(TWO, RULES, ORDER, chain("f", 3000, A)), 27 + 18 * 2998)
        lore = Lore(WIDE, ((h(A, B), C),))
        order = [A, B, C, h(A, B)]
        term = h(A, C)
        for _ in range(6):
            term = h(term, g(term))
        self.assertEqual(number_by(lore, ((h(A, B), C),), order, term), slow_number(lore, order, term))

    def test_nothing_is_changed(self):
        order = list(ORDER)
        self.assertEqual(number_by(TWO, RULES, order, B), number_by(TWO, RULES, order, B))
        self.assertEqual(order, ORDER)


class CountOrdered(unittest.TestCase):
    def check_too_many(self, most, lore):
        with self.assertRaises(TooMany) as caught:
            count_ordered(lore)
        self.assertEqual(caught.exception.most, most)

    def test_examples(self):
        self.assertEqual(count_ordered(FOUR), 2)
        self.assertEqual((count_ordered(TWO), count_ordered(LOOP), count_ordered(BARE)), (3, 1, 1))

    def test_by_the_books(self):
        most = 0
        for lore in small_lores(24, 7, 200):
            books = [slow_book(lore, pick) for pick in picks_of(lore)]
            if max(len(terms_of(rules)) for rules in books) <= 14:
                many = len([rules for rules in books if ranks(lore, rules) is not None])
                self.assertEqual(count_ordered(lore), many)
                most = max(most, len(books) - many)
            else:
                self.check_too_many(14, lore)
        self.assertGreater(most, 0)

    def test_too_many(self):
        self.check_too_many(11, layers(12))
        self.check_too_many(200, layers(11))
        self.check_too_many(200, layers(8))
        self.check_too_many(14, layers(7))
        self.assertEqual(count_picks(layers(7)), 128)
        self.assertEqual(count_ordered(row_of_signs(7, True)), 127)
        self.check_too_many(200, row_of_signs(8, True))

    def test_two_hundred_picks_and_more(self):
        signs = (("a", 0), ("b", 0), ("c", 0), ("d", 0), ("e", 0), ("f", 1), ("g", 1), ("h", 2), ("k", 2))
        lines = [(C, (sign, one, other)) for sign in ("h",) for one in (A, B) for other in (A, B)]
        lines += [(("d",), ("k", one, other)) for one in (A, B) for other in (A, B)]
        lore = Lore(signs, tuple(lines) + ((f(A), f(B)), (g(A), g(B)), (("e",), h(C, C))))
        self.assertEqual(count_picks(lore), 200)
        self.check_too_many(14, lore)
        lore = with_line(lore, (("e",), h(C, A)))
        self.assertEqual(count_picks(lore), 300)
        self.check_too_many(200, lore)

    def test_more_than_two_thousand_signs(self):
        lines = []
        for name, term in (("b", A), ("c", B)):
            for _ in range(5):
                term = h(term, term)
            lines.append(((name,), term))
        lore = Lore((("a", 0), ("b", 0), ("c", 0), ("h", 2)), tuple(lines))
        with self.assertRaises(TooMany) as caught:
            book(lore, greatest_pick(lore))
        self.assertEqual(caught.exception.most, 2000)
        self.assertEqual((count_picks(lore), count_ordered(lore)), (4, 4))


if __name__ == "__main__":
    unittest.main()

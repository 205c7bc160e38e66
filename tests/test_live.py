"""Promise 14.1: a live lore."""

import unittest
from random import Random

from neatbooks.changing import without
from neatbooks.errors import BadLore, Full, LoreError, NoLine, NoNumber, NoTerm, NothingDone, TooMany
from neatbooks.hall import ways
from neatbooks.live import Live
from neatbooks.lores import Lore, is_term
from neatbooks.texts import term_text
from tests.samples import A, B, C, FOUR, LOOP, TWO, WIDE, chain, choices, f, g, h, how_great, just_two_thousand, nested
from tests.samples import odd_things, picks_of, row_of_signs, sixty_lines, slow_answer, slow_answers, slow_book, some_term
from tests.samples import told


class SlowLive:
    """A live lore as the document tells it, all picks being gone through."""

    def __init__(self, signs):
        self.signs, self.lines, self.wishes, self.watched, self.rows, self.past = signs, (), (), (), [], []

    def lore(self):
        return Lore(self.signs, self.lines)

    def keep(self, row):
        self.past.append((self.lines, self.wishes, self.watched))
        self.rows.append(row)

    def back(self):
        self.lines, self.wishes, self.watched = self.past.pop()
        self.rows.pop()

    def way(self, term):
        """The pair (class, number of its way) of a told term."""
        table = {way: (number, k) for number, row in enumerate(ways(self.lore())) for k, way in enumerate(row)}

        def number_of(part):
            return table[part[0], tuple(number_of(further) for further in part[1:])][0]

        return table[term[0], tuple(number_of(part) for part in term[1:])]

    def held(self):
        """The pair of the lot of the granted wishes and of the held pick."""
        picks = picks_of(self.lore())
        lot = []
        for number, term in enumerate(self.wishes):
            if term in told(self.lines):
                at, k = self.way(term)
                left = [pick for pick in picks if pick[at] == k]
                if left:
                    lot.append(number)
                    picks = left
        return tuple(lot), min(picks)

    def book(self):
        return slow_book(self.lore(), self.held()[1])


def by_left_sides(rules):
    return sorted(rules, key=lambda rule: (how_great(rule[0]), rule[0]))


def shown(live):
    """All that a live lore tells of itself."""
    return (live.lore().signs, live.lore().lines, live.pick(), live.book(), live.granted(), live.watched(), live.wishes(),
            live.deeds(), live.journal())


def doubling(names, many):
    """The live lore of some names, each of so many told equal to two of the one ahead, and a list of its lines."""
    signs = tuple(sorted([(name, 0) for name in names] + [("t", 2)]))
    return Live(signs), [((one,), ("t", (ahead,), (ahead,))) for ahead, one in zip(names, names[1:many + 1])]


class Checks(unittest.TestCase):
    def check(self, live, slow):
        """Checks all that a live lore holds against a slow one."""
        self.assertEqual(live.lore(), slow.lore())
        lot, pick = slow.held()
        self.assertEqual((live.granted(), live.pick(), live.book()), (lot, pick, slow.book()))
        self.assertEqual(live.watched(), [(term, slow_answer(slow.book(), term)) for term in slow.watched])
        self.assertEqual((live.wishes(), live.deeds()), (slow.wishes, len(slow.past)))
        rows = [f"sign {sign} {places}\n" for sign, places in slow.signs] + [row + "\n" for row in slow.rows]
        self.assertEqual(live.journal(), "".join(rows))

    def check_news(self, elder, book, news):
        self.assertEqual([type(news), len(news), type(news[0]), type(news[1])], [tuple, 2, list, list])
        self.assertEqual(news[0], by_left_sides(set(elder) - set(book)))
        self.assertEqual(news[1], by_left_sides(set(book) - set(elder)))

    def check_refused(self, live, error, call, most=None):
        """Checks that a call raises an error of just this class, and that all is as it was."""
        ahead = shown(live)
        with self.assertRaises(LoreError) as caught:
            call()
        self.assertIs(type(caught.exception), error)
        if most is not None:
            self.assertEqual(caught.exception.most, most)
        self.assertEqual(shown(live), ahead)


class Deeds(Checks):
    def some_deed(self, random, live, slow):
        """Does a deed that is drawn, by both; tells whether there was one."""
        elder = slow.book()
        word = random.choice(["tell", "tell", "tell", "drop", "wish", "wish", "unwish", "watch", "back"])
        if word == "tell":
            line = (some_term(random, slow.signs, 3), some_term(random, slow.signs, 2))
            if len(choices(Lore(slow.signs, slow.lines + (line,)))) > 150:
                return
            slow.keep(f"tell {term_text(slow.lore(), line[0])} = {term_text(slow.lore(), line[1])}")
            slow.lines += (line,)
            news = live.tell(line)
        elif word in ("wish", "watch"):
            terms = told(slow.lines) + [some_term(random, slow.signs, 3)]
            term = random.choice(terms)
            if len(slow.wishes if word == "wish" else slow.watched) == (12 if word == "wish" else 20):
                return
            slow.keep(f"{word} {term_text(slow.lore(), term)}")
            if word == "watch":
                slow.watched += (term,)
                self.assertEqual(live.watch(term), slow_answer(slow.book(), term))
                return
            slow.wishes += (term,)
            news = live.wish(term)
        elif word == "back":
            if slow.past:
                slow.back()
                self.assertIs(live.back(), None)
            return
        else:
            row = slow.lines if word == "drop" else slow.wishes
            if not row:
                return
            number = random.randrange(len(row))
            slow.keep(f"{word} {number}")
            if word == "drop":
                slow.lines = row[:number] + row[number + 1:]
                news = live.drop(number)
            else:
                slow.wishes = row[:number] + row[number + 1:]
                news = live.unwish(number)
        self.check_news(elder, slow.book(), news)

    def test_after_each_deed(self):
        random = Random(11)
        for signs in (LOOP.signs, TWO.signs, FOUR.signs, (("a", 0), ("h", 2)), (("a", 0), ("b", 0), ("f", 1), ("h", 2))):
            for _ in range(12):
                live, slow = Live(signs), SlowLive(signs)
                self.check(live, slow)
                for _ in range(16):
                    self.some_deed(random, live, slow)
                    self.check(live, slow)
                while slow.past:
                    slow.back()
                    self.assertIs(live.back(), None)
                self.check(live, slow)
                self.check_refused(live, NothingDone, live.back)

    def test_by_hand(self):
        live = Live(TWO.signs)
        self.assertEqual(live.tell((f(A), B)), ([], [(f(A), B)]))
        self.assertEqual(live.watch(f(f(A))), f(B))
        self.assertEqual(live.tell((f(B), A)), ([], [(f(B), A)]))
        self.assertEqual((live.pick(), live.watched()), ((0, 0), [(f(f(A)), A)]))
        self.assertEqual(live.wish(f(A)), ([(f(A), B), (f(B), A)], [(B, f(A)), (f(f(A)), A)]))
        self.assertEqual((live.pick(), live.granted()), ((0, 1), (0,)))
        # Both cannot be made of one another; a class has one way at a time; what is not told is not granted.
        for term in (f(B), B, f(f(A)), f(A), A):
            live.wish(term)
        self.assertEqual((live.granted(), live.wishes()), ((0, 4, 5), (f(A), f(B), B, f(f(A)), f(A), A)))
        self.assertEqual(live.unwish(0), ([(B, f(A)), (f(f(A)), A)], [(A, f(B)), (f(f(B)), B)]))
        self.assertEqual((live.granted(), live.pick()), ((0, 1), (1, 0)))
        self.assertEqual(live.drop(1), ([(A, f(B)), (f(f(B)), B)], [(f(A), B)]))
        self.assertEqual((live.lore(), live.granted()), (without(TWO, (1,)), (1, 4)))
        self.assertEqual(live.journal(), (
            "sign a 0\nsign b 0\nsign f 1\ntell f(a) = b\nwatch f(f(a))\ntell f(b) = a\nwish f(a)\nwish f(b)\nwish b\n"
            "wish f(f(a))\nwish f(a)\nwish a\nunwish 0\ndrop 1\n"))
        self.assertEqual(live.deeds(), 11)

    def test_kinds(self):
        live = Live(TWO.signs)
        live.tell(TWO.lines[0])
        live.wish(A)
        self.assertEqual([type(thing) for thing in (
            live.lore(), live.pick(), live.book(), live.granted(), live.watched(), live.wishes(), live.deeds(), live.journal(),
            live.copy())], [Lore, tuple, tuple, tuple, list, tuple, int, str, Live])

    def test_the_first_signs(self):
        for signs in (WIDE, LOOP.signs, row_of_signs(11, True).signs):
            live = Live(signs)
            self.assertEqual(shown(live)[:-1], (signs, (), (), (), (), [], (), 0))
            self.assertEqual(live.journal(), "".join(f"sign {sign} {places}\n" for sign, places in signs))
        for thing in odd_things() + [list(TWO.signs), TWO.signs[::-1], (("f", 1),), (("a", False),), TWO.signs + (("g", 3),)]:
            if not (type(thing) is tuple and thing == (("a", 0),)):
                with self.assertRaises(BadLore) as caught:
                    Live(thing)
                self.assertEqual(caught.exception.part, "signs")

    def test_a_wish_is_granted_once_it_is_told(self):
        live = Live(TWO.signs)
        live.wish(f(A))
        self.assertEqual((live.granted(), live.pick()), ((), ()))
        live.tell((f(A), B))
        self.assertEqual((live.granted(), live.pick()), ((0,), (0, 1)))
        live.drop(0)
        self.assertEqual((live.granted(), live.pick()), ((), ()))
        # What is equal to a told term, but is none, is not granted.
        live = Live(LOOP.signs)
        live.tell((A, f(A)))
        live.wish(f(f(A)))
        self.assertEqual(live.granted(), ())

    def test_the_elder_wish_comes_first(self):
        live = Live(WIDE)
        live.tell((f(A), B))
        live.tell((B, g(C)))
        live.wish(B)
        live.wish(f(A))
        live.wish(g(C))
        self.assertEqual(live.granted(), (0,))
        live.unwish(0)
        self.assertEqual(live.granted(), (0,))
        self.assertEqual(live.book(), ((B, f(A)), (g(C), f(A))))


class Refused(Checks):
    def test_wrong_things(self):
        live = Live(TWO.signs)
        live.tell(TWO.lines[0])
        live.wish(A)
        live.watch(B)
        for thing in odd_things() + [C, h(A, A), ("f",), ["a"], nested(lambda part: ("f", part), 59)]:
            if not is_term(TWO, thing):
                self.check_refused(live, NoTerm, lambda: live.wish(thing))
                self.check_refused(live, NoTerm, lambda: live.watch(thing))
                self.check_refused(live, NoLine, lambda: live.tell((thing, A)))
                self.check_refused(live, NoLine, lambda: live.tell((A, thing)))
            self.check_refused(live, NoLine, lambda: live.tell(thing))
            if type(thing) is not int or thing != 0:
                self.check_refused(live, NoNumber, lambda: live.drop(thing))
                self.check_refused(live, NoNumber, lambda: live.unwish(thing))
        for thing in ([A, B], (A, B, A), (A,), {A: B}):
            self.check_refused(live, NoLine, lambda: live.tell(thing))
        for number in (1, -1, 10 ** 39):
            self.check_refused(live, NoNumber, lambda: live.drop(number))
            self.check_refused(live, NoNumber, lambda: live.unwish(number))

    def test_twenty_five_lines(self):
        live = Live(TWO.signs)
        for k in range(24):
            live.tell((A, chain("f", k % 3, A)))
        for thing in (None, (A,), (A, C)):
            self.check_refused(live, NoLine, lambda: live.tell(thing))
        self.check_refused(live, Full, lambda: live.tell((A, B)))
        live.drop(5)
        live.tell((A, B))
        self.check_refused(live, Full, lambda: live.tell((A, B)))
        live.back()
        live.tell((B, B))
        self.assertEqual(len(live.lore().lines), 24)

    def test_sixty_one_told_terms(self):
        live = Live(WIDE)
        for line in sixty_lines():
            live.tell(line)
        self.check_refused(live, Full, lambda: live.tell((C, A)))
        self.check_refused(live, Full, lambda: live.tell((chain("f", 29, A), f(chain("f", 29, A)))))
        live.tell((A, B))
        live.drop(0)
        live.tell((C, A))
        self.check_refused(live, Full, lambda: live.tell(sixty_lines()[0]))
        live.back()
        live.tell(sixty_lines()[0])
        self.assertEqual(len(told(live.lore().lines)), 60)

    def test_thirteen_wishes(self):
        live = Live(TWO.signs)
        for k in range(12):
            live.wish(chain("f", k, A))
        self.check_refused(live, NoTerm, lambda: live.wish(C))
        self.check_refused(live, Full, lambda: live.wish(B))
        live.unwish(11)
        live.wish(B)
        self.check_refused(live, Full, lambda: live.wish(A))
        self.assertEqual(live.wishes(), tuple(chain("f", k, A) for k in range(11)) + (B,))

    def test_twenty_one_watched_terms(self):
        live = Live(TWO.signs)
        live.tell((f(A), B))
        for k in range(20):
            self.assertEqual(live.watch(chain("f", k, A)), chain("f", k - 1, B) if k else A)
        self.check_refused(live, NoTerm, lambda: live.watch(C))
        self.check_refused(live, Full, lambda: live.watch(B))
        self.assertEqual(live.watched(), [(chain("f", k, A), chain("f", k - 1, B) if k else A) for k in range(20)])
        live.back()
        live.watch(B)
        self.check_refused(live, Full, lambda: live.watch(B))

    def test_two_thousand_at_tell(self):
        # The names come behind t: so the answers are doublings, of 1, 3, 7, .. 511 and 1023 signs.
        live, lines = doubling(("a", "tb", "tc", "td", "te", "tf", "tg", "th", "ti", "tj"), 9)
        for line in lines[:8]:
            live.tell(line)
        self.assertEqual(sum(how_great(term) for term in slow_answers(live.lore(), live.pick())), 1013)
        self.check_refused(live, TooMany, lambda: live.tell(lines[8]), 2000)
        live.wish(("td",))
        live.tell(lines[8])
        self.assertEqual(live.granted(), (0,))
        self.check_refused(live, TooMany, lambda: live.unwish(0), 2000)

    def test_two_thousand_at_wish_and_unwish(self):
        live, lines = doubling(("a", "b", "c", "d", "e", "f", "g", "h", "i", "j"), 9)
        for line in lines:
            live.tell(line)
        for _, term in lines[:8]:
            live.wish(term)
        self.check_refused(live, TooMany, lambda: live.wish(lines[8][1]), 2000)
        live.wish(lines[8][0])
        live.wish(lines[8][1])
        self.assertEqual(live.granted(), tuple(range(9)))
        self.check_refused(live, TooMany, lambda: live.unwish(8), 2000)
        live.unwish(9)
        live.unwish(8)
        self.assertEqual(live.deeds(), 21)
        self.check_refused(live, TooMany, lambda: live.wish(lines[8][1]), 2000)
        live.unwish(0)
        live.wish(lines[8][1])

    def test_two_thousand_at_drop(self):
        live, lines = doubling(("a", "tb", "tc", "td", "te", "tf", "tg", "th", "ti", "tj", "z"), 9)
        live.wish(("z",))
        for line in lines[:8]:
            live.tell(line)
        live.tell((("z",), lines[8][1]))
        self.assertEqual(live.granted(), (0,))
        live.tell(lines[8])
        self.assertEqual(live.granted(), (0,))
        self.check_refused(live, TooMany, lambda: live.drop(8), 2000)
        live.wish(("tj",))
        live.drop(8)
        self.assertEqual(live.granted(), (1,))

    def test_just_two_thousand(self):
        for more in (0, 1):
            lore = just_two_thousand(more)
            live = Live(lore.signs)
            for line in lore.lines:
                live.tell(line)
            for line in lore.lines[:7]:
                live.wish(line[1])
            if more:
                self.check_refused(live, TooMany, lambda: live.wish(lore.lines[7][1]), 2000)
            else:
                live.wish(lore.lines[7][1])
                self.assertEqual(live.granted(), tuple(range(8)))
                self.assertEqual(sum(how_great(term) for term in slow_answers(live.lore(), live.pick())), 2000)


class Aside(Checks):
    def filled(self):
        live = Live(TWO.signs)
        live.tell(TWO.lines[0])
        live.wish(f(A))
        live.watch(f(f(A)))
        live.tell(TWO.lines[1])
        return live

    def test_back_till_nothing_is_done(self):
        live = self.filled()
        states = []
        for deed in (lambda: live.drop(0), lambda: live.unwish(0), lambda: live.watch(B), lambda: live.wish(f(B))):
            states.append(shown(live))
            deed()
        for state in states[::-1]:
            self.assertIs(live.back(), None)
            self.assertEqual(shown(live), state)
        for deeds in (3, 2, 1, 0):
            live.back()
            self.assertEqual(live.deeds(), deeds)
        self.assertEqual(shown(live), shown(Live(TWO.signs)))
        self.check_refused(live, NothingDone, live.back)
        live.tell(TWO.lines[1])
        self.assertEqual(live.deeds(), 1)

    def test_what_is_refused_is_no_deed(self):
        live = self.filled()
        for call in (lambda: live.tell(None), lambda: live.drop(2), lambda: live.wish(C), lambda: live.unwish(1)):
            self.assertRaises(LoreError, call)
        live.back()
        self.assertEqual(live.lore().lines, TWO.lines[:1])

    def test_copy(self):
        live = self.filled()
        ahead = shown(live)
        other = live.copy()
        self.assertIsNot(other, live)
        self.assertEqual(shown(other), ahead)
        other.drop(0)
        other.watch(A)
        self.assertEqual(shown(live), ahead)
        behind = shown(other)
        live.back()
        live.back()
        live.wish(B)
        self.assertEqual(shown(other), behind)
        for _ in range(6):
            other.back()
        self.assertEqual(shown(other), shown(Live(TWO.signs)))
        self.assertRaises(NothingDone, other.back)
        self.assertEqual(live.deeds(), 3)
        self.assertEqual(shown(other.copy()), shown(other))

    def test_trying(self):
        live = self.filled()
        ahead = shown(live)
        calls = []

        def action(one):
            calls.append(one)
            one.drop(0)
            one.back()
            one.back()
            one.watch(A)
            for _ in range(3):
                one.back()
            one.wish(B)
            return (one.deeds(), [one.journal()])

        self.assertEqual(live.trying(action), (2, ["sign a 0\nsign b 0\nsign f 1\ntell f(a) = b\nwish b\n"]))
        self.assertEqual(len(calls), 1)
        self.assertIs(calls[0], live)
        self.assertEqual(shown(live), ahead)
        for deeds in (3, 2, 1, 0):
            live.back()
            self.assertEqual(live.deeds(), deeds)
        self.assertEqual(shown(live), shown(Live(TWO.signs)))

    def test_trying_with_an_error(self):
        live = self.filled()
        ahead = shown(live)

        def fails(one):
            one.back()
            one.tell((A, B))
            raise KeyError(one.deeds())

        with self.assertRaises(KeyError) as caught:
            live.trying(fails)
        self.assertEqual((caught.exception.args, shown(live)), ((4,), ahead))
        for error, call in ((NoNumber, lambda one: one.drop(9)), (NoLine, lambda one: one.tell(one.back()))):
            self.assertRaises(error, live.trying, call)
            self.assertEqual(shown(live), ahead)

        def goes_back(one):
            while True:
                one.back()

        self.assertRaises(NothingDone, live.trying, goes_back)
        self.assertEqual(shown(live), ahead)

    def test_trying_within_trying(self):
        live = self.filled()
        ahead = shown(live)

        def inner(one):
            one.back()
            return one.deeds()

        def outer(one):
            one.tell((A, A))
            middle = shown(one)
            found = (one.trying(inner), one.deeds())
            self.assertEqual(shown(one), middle)
            return found + (one.copy(),)

        first, last, other = live.trying(outer)
        self.assertEqual((first, last, other.deeds()), (4, 5, 5))
        self.assertEqual(shown(live), ahead)
        other.back()
        self.assertEqual(shown(other), ahead)

    def test_what_trying_returns(self):
        live = self.filled()
        for thing in odd_things():
            self.assertIs(live.trying(lambda one: thing), thing)

    def test_lists_that_are_changed_change_nothing(self):
        live = self.filled()
        ahead = shown(live)
        for row in (live.watched(), live.tell((A, A))[1], live.drop(2)[0], live.wish(A)[0], live.unwish(1)[1]):
            row.append(None)
            row.reverse()
        for _ in range(4):
            live.back()
        self.assertEqual(shown(live), ahead)
        self.assertIsNot(live.watched(), live.watched())

    def test_equal_to_nothing_else(self):
        live = self.filled()
        for thing in odd_things() + [live.copy(), live.lore(), shown(live)]:
            self.assertFalse(live == thing)

    def test_equal_deeds_give_equal_answers(self):
        one, other = self.filled(), self.filled()
        Live(FOUR.signs).tell((A, B))
        self.assertEqual(shown(one), shown(other))
        self.assertEqual(one.wish(f(B)), other.wish(f(B)))
        self.assertEqual(one.drop(0), other.drop(0))


if __name__ == "__main__":
    unittest.main()

"""What the document promises over the whole program: 0.2 to 0.5, and what does not hang on names and order."""

import importlib
import inspect
import re
import sys
import unittest
from copy import deepcopy
from random import Random

from neatbooks import errors
from neatbooks.bars import bar, is_bar
from neatbooks.books import answers, book, fault, is_neat, pick_of
from neatbooks.changing import joined, renamed, with_line, without
from neatbooks.common import common, endless, is_endless, line_of
from neatbooks.counting import count_picks, pick_at, pick_number
from neatbooks.desk import Desk
from neatbooks.errors import LoreError, TooMany
from neatbooks.hall import class_of, classes, equal, losses, ways, worth
from neatbooks.joinings import count_joinings, excess, is_joining, joining_at
from neatbooks.journals import read_journal, recovered
from neatbooks.leading import changes, count_changes, is_changes, rules_kept
from neatbooks.letters import is_letters, letters
from neatbooks.lines import alike, first_untold, gain, is_least, load, shortest, spare, tells, thinned
from neatbooks.live import Live
from neatbooks.lores import Lore, is_term, size, told_terms
from neatbooks.orders import count_ordered, is_ranks, number_by, ranks
from neatbooks.papers import is_paper, paper
from neatbooks.picks import can_pick, completed, is_pick, is_ring, ring
from neatbooks.reading import read_lore, read_term
from neatbooks.runs import answer, run, stepped, steps, wrong_places
from neatbooks.shares import fall, level, long_run, share, share_equal, told_by
from neatbooks.some import about
from neatbooks.strangers import wrong_judge
from neatbooks.terms import count_terms, has_endless, term_at
from neatbooks.texts import lore_text, term_text
from neatbooks.trees import words
from neatbooks.weights import least_pick, least_weight, least_weights
from neatbooks.worlds import first_broken, is_parting, keeps, value, world
from tests.samples import A, B, BARE, FOUR, LOOP, ONE, REST, TWICE, TWO, chain, f, g, layers, nested, odd_things
from tests.samples import row_of_signs, some_lores, some_term, told
from tests.test_joinings import free_signs

INTERFACE = {
    "lores": "Lore(signs, lines) is_term(lore, thing) size(lore, term) told_terms(lore)",
    "changing": "with_line(lore, line) without(lore, lot) renamed(lore, names) joined(one, other)",
    "texts": "term_text(lore, term) lore_text(lore)",
    "reading": "read_term(lore, text) read_lore(text)",
    "hall": "classes(lore) ways(lore) losses(lore) class_of(lore, term) equal(lore, term, other_term) worth(lore)",
    "papers": "paper(lore, term, other_term) is_paper(lore, term, other_term, thing)",
    "worlds": "value(lore, world, term) keeps(lore, world) is_parting(lore, term, other_term, thing)"
              " first_broken(lore, world) world(lore)",
    "picks": "is_pick(lore, thing) is_ring(lore, choice, thing) ring(lore, choice) completed(lore, wishes) can_pick(lore)",
    "counting": "count_picks(lore) pick_number(lore, pick) pick_at(lore, number)",
    "books": "fault(lore, thing) is_neat(lore, thing) answers(lore, pick) book(lore, pick) pick_of(lore, book)",
    "runs": "steps(lore, book, term) run(lore, book, term, chooser) stepped(lore, book, term, place)"
            " answer(lore, book, term) wrong_places(lore, pick, term)",
    "leading": "changes(lore, pick, other_pick) is_changes(lore, pick, other_pick, thing)"
               " count_changes(lore, pick, other_pick) rules_kept(lore, pick, other_pick)",
    "weights": "least_weights(lore, weights) least_pick(lore, weights) least_weight(lore, weights)",
    "orders": "ranks(lore, book) is_ranks(lore, book, thing) number_by(lore, book, ranks, term) count_ordered(lore)",
    "bars": "bar(lore, book) is_bar(lore, book, thing)",
    "lines": "tells(one, other) alike(one, other) is_least(lore) first_untold(one, other) spare(lore) thinned(lore)"
             " gain(lore, line) load(lore) shortest(lore, term, other_term)",
    "common": "common(one, other) endless(one, other) is_endless(one, other, thing) line_of(one, other, thing, number)",
    "some": "about(lore, lot)",
    "letters": "letters(one, other) is_letters(one, other, thing)",
    "joinings": "count_joinings(lore) excess(lore, joining) joining_at(lore, number) is_joining(lore, thing)",
    "shares": "share(lore, n) share_equal(lore, term, other_term, n) long_run(lore, term, other_term) fall(lore)"
              " level(lore) told_by(lore)",
    "terms": "count_terms(lore, number, size) term_at(lore, number, size, index) has_endless(lore, number)",
    "live": "Live(signs)", "journals": "read_journal(text) recovered(text)", "strangers": "wrong_judge(lore, judge)",
    "desk": "Desk()",
}
METHODS = {
    Lore: "__eq__(other)", Desk: "tell(line) undoable()",
    Live: "tell(line) drop(number) wish(term) unwish(number) watch(term) lore() pick() book() granted() watched() wishes()"
          " back() deeds() copy() trying(action) journal()",
}


def named_rows(text):
    """The pairs (name, list of arguments) of a row of the interface."""
    return [(name, [part for part in parts.split(", ") if part]) for name, parts in re.findall(r"(\w+)\(([^)]*)\)", text)]


class Interface(unittest.TestCase):
    def test_functions_and_classes(self):
        for module, text in INTERFACE.items():
            held = importlib.import_module("neatbooks." + module)
            for name, parts in named_rows(text):
                thing = getattr(held, name)
                self.assertEqual(thing.__module__, "neatbooks." + module)
                self.assertEqual(list(inspect.signature(thing).parameters), parts, name)

    def test_methods_stand_in_their_class(self):
        for kind, text in METHODS.items():
            for name, parts in named_rows(text):
                self.assertEqual(list(inspect.signature(vars(kind)[name]).parameters), ["self"] + parts, name)

    def test_attributes(self):
        self.assertEqual((TWO.signs, TWO.lines), ((("a", 0), ("b", 0), ("f", 1)), ((f(A), B), (f(B), A))))


# The book of the pick (0, 1) of TWO, and things that go with it.
BOOK = ((B, f(A)), (f(f(A)), A))
RANKS = [A, f(A), f(f(A)), B]
EXAMPLE = (0, A, B, f(("_",)), f(("_",)), g(("_",)), g(("_",)))
JOURNAL = "sign a 0\nsign f 1\ntell a = f(a)\nwish f(a)\nwatch f(f(a))\ndrop 0\n"
FREE = (("a", 0), ("f", 1))


def live_story():
    live = Live(TWO.signs)
    found = [live.tell(line) for line in TWO.lines] + [live.wish(f(A)), live.watch(f(f(A))), live.unwish(0), live.drop(1)]
    return found + [live.lore(), live.pick(), live.book(), live.granted(), live.watched(), live.wishes(), live.journal(),
                    live.trying(lambda one: [one.back(), one.deeds()])]


def desk_story():
    desk = Desk()
    lines = [f"lore x {lore_text(TWO)}".replace("\n", "|"), "worth x", "picks x", "book x 1", "drop x", "undo", "names", "undo"]
    return [desk.tell(line) for line in lines] + [desk.undoable()]


def shown_recovered(text):
    live, many = recovered(text)
    return (live.journal(), live.book(), many)


def ring_row():
    """All calls with right arguments: pairs (function, list of the arguments)."""
    return [
        (Lore, [TWO.signs, TWO.lines]), (is_term, [TWO, f(A)]), (size, [TWO, f(A)]), (told_terms, [TWO]),
        (with_line, [TWO, (A, B)]), (without, [TWO, (0,)]), (renamed, [LOOP, {"a": "c", "f": "b"}]), (joined, [LOOP, TWO]),
        (term_text, [TWO, f(A)]), (lore_text, [TWO]), (read_term, [TWO, "f(a)"]), (read_lore, ["sign a 0\na = a\n"]),
        (classes, [TWO]), (ways, [TWO]), (losses, [TWICE]), (class_of, [TWO, f(A)]), (equal, [TWO, A, f(B)]), (worth, [TWO]),
        (paper, [TWO, f(f(A)), A]), (paper, [TWO, A, B]), (is_paper, [TWO, A, A, [(A, A, ("same",))]]),
        (value, [LOOP, (1, {"a": {(): 0}, "f": {(0,): 0}}), A]), (keeps, [LOOP, (1, {"a": {(): 0}, "f": {(0,): 0}})]),
        (first_broken, [LOOP, (2, {"a": {(): 0}, "f": {(0,): 1, (1,): 1}})]), (world, [TWO]),
        (is_parting, [TWO, A, B, (1, {"a": {(): 0}, "b": {(): 0}, "f": {(0,): 0}})]),
        (is_pick, [TWO, (0, 1)]), (is_ring, [TWO, (1, 1), (0, 1)]), (ring, [TWO, (1, 1)]), (completed, [TWO, {0: 1}]),
        (can_pick, [TWO]), (count_picks, [TWO]), (pick_number, [TWO, (0, 1)]), (pick_at, [TWO, 1]),
        (fault, [TWO, BOOK[:1]]), (is_neat, [TWO, BOOK]), (answers, [TWO, (0, 1)]), (book, [TWO, (0, 1)]), (pick_of, [TWO, BOOK]),
        (steps, [TWO, BOOK, f(f(B))]), (run, [TWO, BOOK, f(f(B)), lambda row: row.pop()]), (stepped, [TWO, BOOK, f(B), (0,)]),
        (answer, [TWO, BOOK, f(B)]), (wrong_places, [TWO, (0, 1), f(f(B))]), (changes, [TWO, (0, 1), (1, 0)]),
        (is_changes, [TWO, (0, 1), (0, 0), ((0, 1), (0, 0))]), (count_changes, [TWO, (0, 1), (1, 0)]),
        (rules_kept, [TWO, (0, 1), (0, 0)]), (least_weights, [TWO, {"a": 5, "b": 1, "f": 2}]),
        (least_pick, [TWO, {"a": 5, "b": 1, "f": 2}]), (least_weight, [TWO, {"a": 5, "b": 1, "f": 2}]),
        (ranks, [TWO, BOOK]), (is_ranks, [TWO, BOOK, RANKS]), (number_by, [TWO, BOOK, RANKS, f(f(B))]), (count_ordered, [FOUR]),
        (bar, [TWO, BOOK]), (bar, [FOUR, book(FOUR, (0, 0, 0, 1))]), (is_bar, [TWO, BOOK, ("ring", ())]),
        (tells, [ONE, FOUR]), (alike, [ONE, FOUR]), (is_least, [TWICE]), (first_untold, [FOUR, ONE]), (spare, [TWICE]),
        (thinned, [with_line(TWO, (f(f(A)), A))]), (gain, [LOOP, (f(A), A)]), (load, [TWO]), (shortest, [TWO, f(f(A)), A]),
        (common, [ONE, FOUR]), (common, [ONE, REST]), (endless, [ONE, REST]), (is_endless, [ONE, REST, EXAMPLE]),
        (line_of, [ONE, REST, EXAMPLE, 2]), (about, [TWO, (0, 2)]), (letters, [TWO, FOUR]),
        (is_letters, [TWO, FOUR, letters(TWO, FOUR)]), (count_joinings, [FOUR]), (excess, [FOUR, (0, 0, 1, 1)]),
        (joining_at, [FOUR, 3]), (is_joining, [FOUR, (0, 0, 1, 1)]), (share, [TWO, 2]), (share_equal, [TWO, A, B, 3]),
        (long_run, [TWO, A, B]), (fall, [FOUR]), (level, [FOUR]), (told_by, [FOUR]), (count_terms, [TWO, 0, 3]),
        (term_at, [TWO, 0, 3, 0]), (has_endless, [TWO, 0]), (shown_recovered, [JOURNAL + "x"]),
        (lambda text: read_journal(text).journal(), [JOURNAL]), (wrong_judge, [TWO, lambda one, other: False]),
        (live_story, []), (desk_story, []),
    ]


def lists_in(thing):
    """All lists and dicts within a thing."""
    found = []
    if isinstance(thing, (list, dict)):
        found.append(thing)
    if isinstance(thing, (list, tuple)):
        found += [part for inner in thing for part in lists_in(inner)]
    if isinstance(thing, dict):
        found += [part for inner in thing.values() for part in lists_in(inner)]
    return found


class Calls(unittest.TestCase):
    def test_all_functions_are_called(self):
        names = {name for text in INTERFACE.values() for name, _ in named_rows(text)}
        called = {call.__name__ for call, _ in ring_row()} | {"recovered", "read_journal", "Live", "Desk"}
        self.assertEqual(names - called, set())

    def test_equal_calls_give_equal_answers(self):
        row = ring_row()
        first = [call(*parts) for call, parts in row]
        order = list(range(len(row)))
        for seed in range(3):
            Random(seed).shuffle(order)
            for k in order:
                call, parts = row[k]
                self.assertEqual(call(*parts), first[k], call)

    def test_nothing_that_is_passed_is_changed(self):
        for call, parts in ring_row():
            copies = [part if callable(part) else deepcopy(part) for part in parts]
            call(*parts)
            for part, copied in zip(parts, copies):
                if not callable(part):
                    self.assertEqual(part, copied, call)

    def test_lists_and_dicts_are_new_each_time(self):
        seen = 0
        for call, parts in ring_row():
            first, again = call(*parts), call(*parts)
            copied = deepcopy(first)
            numbers = [id(thing) for thing in lists_in(first)]
            self.assertEqual(len(numbers), len(set(numbers)), call)
            self.assertFalse(set(numbers) & {id(thing) for part in [again] + parts for thing in lists_in(part)}, call)
            for thing in lists_in(first):
                thing.clear()
                seen += 1
            self.assertEqual((again, call(*parts)), (copied, copied), call)
        self.assertGreater(seen, 20)

    def test_arguments_that_are_changed_afterwards(self):
        names, weights, wishes, row = {"a": "c", "f": "b"}, {"a": 5, "b": 1, "f": 2}, {0: 1}, list(RANKS)
        calls = [lambda: renamed(LOOP, names), lambda: least_pick(TWO, weights), lambda: completed(TWO, wishes),
                 lambda: number_by(TWO, BOOK, row, f(B))]
        found = [call() for call in calls]
        copied = deepcopy(found)
        for thing in (names, weights, wishes, row):
            thing.clear()
        self.assertEqual(found, copied)


# For each error class calls that raise it.
RAISING = {
    "BadLore": [lambda: Lore((), ()), lambda: Live([]), lambda: read_lore(""), lambda: read_journal(""), lambda: recovered("")],
    "NoTerm": [lambda: size(TWO, None), lambda: equal(TWO, A, ("c",)), lambda: Live(TWO.signs).wish("a"),
               lambda: share_equal(TWO, A, [], 2)],
    "NoLine": [lambda: with_line(TWO, A), lambda: gain(TWO, [A, B]), lambda: Live(TWO.signs).tell((A, B, A))],
    "NoLot": [lambda: without(TWO, (2,)), lambda: about(TWO, (2,)), lambda: about(TWO, [0])],
    "NoNames": [lambda: renamed(LOOP, {"a": "b"})],
    "OtherSigns": [lambda: joined(LOOP, Lore((("a", 0), ("f", 2)), ())), lambda: alike(LOOP, TWO), lambda: common(LOOP, TWO),
                   lambda: letters(LOOP, Lore((("b", 0),), ()))],
    "BadText": [lambda: read_term(TWO, "c"), lambda: read_lore(None), lambda: read_journal("x"), lambda: recovered(1)],
    "NoWorld": [lambda: keeps(TWO, None), lambda: value(TWO, (1, {}), A), lambda: first_broken(TWO, ())],
    "NoChoice": [lambda: ring(TWO, (2, 0)), lambda: is_ring(TWO, None, (0,))],
    "NoNumber": [lambda: pick_at(TWO, 3), lambda: line_of(ONE, REST, EXAMPLE, 9), lambda: joining_at(TWO, True),
                 lambda: share(TWO, 0), lambda: count_terms(TWO, 0, 61), lambda: Live(TWO.signs).drop(0)],
    "NoPick": [lambda: book(TWO, (1, 1)), lambda: pick_number(TWO, None), lambda: changes(TWO, (0, 0), (1, 1))],
    "NoWishes": [lambda: completed(TWO, {2: 0})],
    "NoBook": [lambda: pick_of(TWO, BOOK[:1]), lambda: answer(TWO, [], A), lambda: ranks(TWO, None)],
    "NoPlace": [lambda: stepped(TWO, BOOK, f(B), ())],
    "BadStep": [lambda: run(TWO, BOOK, f(B), lambda row: None)],
    "NoWeights": [lambda: least_pick(TWO, {"a": 1})],
    "NoRanks": [lambda: number_by(TWO, BOOK, RANKS[::-1], A)],
    "NoEndless": [lambda: line_of(ONE, REST, None, 0)],
    "NoJoining": [lambda: excess(TWO, (1, 0)), lambda: excess(TWO, None)],
    "NoClass": [lambda: count_terms(TWO, 2, 1), lambda: has_endless(TWO, None), lambda: term_at(TWO, -1, 1, 0)],
    "TooMany": [lambda: count_picks(layers(12)), lambda: fall(free_signs(10)), lambda: count_joinings(free_signs(10))],
    "Full": [lambda: [live.wish(A) for live in [Live(TWO.signs)] for _ in range(13)]],
    "NothingDone": [lambda: Live(TWO.signs).back(), lambda: Desk().tell("undo")],
    "BadDeed": [lambda: read_journal("sign a 0\ndrop 0\n")],
    "NoAnswer": [lambda: wrong_judge(TWO, lambda one, other: 1)],
    "NoForm": [lambda: Desk().tell(None), lambda: Desk().tell("names ")],
    "NoName": [lambda: Desk().tell("show x")],
}


class Errors(unittest.TestCase):
    def test_each_class_is_raised(self):
        names = {name for name, thing in vars(errors).items() if isinstance(thing, type)} - {"LoreError"}
        self.assertEqual(set(RAISING), names)
        for name, calls in RAISING.items():
            for call in calls:
                with self.assertRaises(LoreError) as caught:
                    call()
                self.assertIs(type(caught.exception), getattr(errors, name))
                self.assertIsInstance(caught.exception, ValueError)

    def test_is_functions_judge_any_object(self):
        deep = [nested(lambda part: (part,), 59), nested(lambda part: [part], 59), nested(lambda part: {0: part}, 59),
                nested(lambda part: ("f", part), 59), nested(lambda part: (0, part), 59)]
        right = []
        for thing in odd_things() + deep + [Live(TWO.signs), Desk(), TWO, [TWO], (TWO, TWO)]:
            for number, flag in enumerate((
                is_term(TWO, thing), is_paper(TWO, A, A, thing), is_parting(TWO, A, B, thing), is_pick(TWO, thing),
                is_ring(TWO, (1, 1), thing), is_neat(TWO, thing), is_changes(TWO, (0, 1), (1, 0), thing),
                is_ranks(TWO, BOOK, thing), is_bar(TWO, BOOK, thing), is_endless(ONE, REST, thing),
                is_letters(TWO, FOUR, thing), is_joining(TWO, thing),
            )):
                self.assertIs(type(flag), bool)
                if flag:
                    right.append((number, thing))
        self.assertEqual(right, [(0, A), (3, (0, 0)), (11, (0, 0))])


class Shallow(unittest.TestCase):
    """No call goes deeper than a few hundred calls of Python."""

    def test_with_a_low_limit(self):
        row = ring_row() + [
            (term_at, [LOOP, 0, 60, 0]), (count_picks, [row_of_signs(11, True)]), (pick_at, [row_of_signs(11, True), 2046]),
            (count_picks, [layers(11)]), (count_joinings, [free_signs(9)]), (is_paper, [TWO, A, A, nested(lambda p: [p], 59)]),
            (is_bar, [TWO, BOOK, nested(lambda p: ("cases", A, B, p, p), 12)]), (is_term, [TWO, nested(lambda p: ("f", p), 59)]),
            (lambda text: recovered(text)[1], [JOURNAL + "wish a\n" * 12]), (count_terms, [LOOP, 0, 60]),
            (is_letters, [TWO, FOUR, nested(lambda p: [p], 59)]), (is_joining, [TWO, nested(lambda p: (0, p), 59)]),
        ]
        limit = sys.getrecursionlimit()
        depth = len(inspect.stack(0))
        for call, parts in row:
            expected = call(*parts)
            sys.setrecursionlimit(depth + 250)
            try:
                found = call(*parts)
            finally:
                sys.setrecursionlimit(limit)
            self.assertEqual(found, expected)


class Great(unittest.TestCase):
    """What was returned may be passed on, whatever its size: terms so deep that Python itself cannot compare them."""

    def setUp(self):
        self.deep = chain("f", 3000, A)
        self.lore = with_line(LOOP, (self.deep, ("f", self.deep)))
        self.apart = Lore(TWO.signs, ((B, B),))

    def test_some_signs_and_letters(self):
        lore = joined(self.apart, with_line(BARE, (chain("g", 700, B), B)))
        self.assertEqual(words(about(lore, (0, 1, 3)).lines[0][1]), ("g",) * 700 + ("b",))
        found = letters(lore, Lore(FOUR.signs, ()))
        self.assertEqual(len(found), 2)
        self.assertIs(is_letters(lore, Lore(FOUR.signs, ()), found), True)
        self.assertIs(alike(about(self.lore, (0, 1)), LOOP), True)

    def test_joinings_shares_and_terms(self):
        self.assertEqual((count_joinings(self.lore), fall(self.lore), share(self.lore, 3)), (1, 1, (1, 3)))
        lore = with_line(Lore(LOOP.signs, ()), (chain("f", 500, A), chain("f", 500, A)))
        for call in (lambda: count_joinings(lore), lambda: share(lore, 2), lambda: told_by(lore),
                     lambda: long_run(Lore(LOOP.signs, ()), self.deep, A)):
            with self.assertRaises(TooMany) as caught:
                call()
            self.assertEqual(caught.exception.most, 9)
        self.assertEqual((excess(lore, (0,) * 501), is_joining(lore, tuple(range(501)))), (1, True))
        self.assertEqual(share_equal(LOOP, self.deep, A, 5), (1, 1))
        number = class_of(lore, chain("f", 59, A))
        self.assertEqual((count_terms(lore, number, 60), has_endless(lore, number)), (1, False))
        self.assertEqual(words(term_at(lore, number, 60, 0)), ("f",) * 59 + ("a",))

    def test_live_lores(self):
        live = Live(LOOP.signs)
        with self.assertRaises(LoreError) as caught:
            live.tell((self.deep, A))
        self.assertIs(type(caught.exception), errors.Full)
        live.tell((A, f(f(A))))
        self.assertEqual(words(live.watch(self.deep)), ("a",))
        self.assertEqual(live.wish(self.deep), ([], []))
        self.assertEqual((live.granted(), len(live.watched())), ((), 1))
        self.assertEqual(words(live.watch(("f", self.deep))), ("f", "a"))
        text = live.journal()
        self.assertEqual(read_journal(text).journal(), text)
        self.assertEqual(recovered(text[:-1])[1], 5)
        live.drop(0)
        self.assertEqual([words(told_answer) for _, told_answer in live.watched()], [
            words(self.deep), ("f",) + words(self.deep)])

    def test_judges(self):
        lore = with_line(BARE, (self.deep, chain("g", 900, B)))
        self.assertEqual(wrong_judge(lore, lambda one, other: True), (A, B))
        numbers = []

        def second(one, other):
            numbers.append(len(words(other)))
            return len(numbers) > 3901

        one, other = wrong_judge(lore, second)
        self.assertEqual((words(one), len(words(other)), numbers[3900]), (("b",), 2, 3001))


def some_change(random, lore):
    """A lore told otherwise: signs named anew, lines in another order, sides turned; and a dict of the new names."""
    pool = random.sample(["q", "aa", "m", "zz", "b", "k", "fa", "x", "ab", "p", "gg", "c"], len(lore.signs))
    names = {sign: name for (sign, _), name in zip(lore.signs, pool)}
    lines = [line if random.random() < 0.5 else line[::-1] for line in renamed(lore, names).lines]
    random.shuffle(lines)
    return Lore(renamed(lore, names).signs, tuple(lines)), names


class NamesAndOrder(unittest.TestCase):
    def anew(self, names, term):
        return (names[term[0]],) + tuple(self.anew(names, part) for part in term[1:])

    def some(self, many, seed):
        random = Random(seed)
        for lore in [LOOP, TWO, FOUR, ONE, REST, TWICE, BARE] + some_lores(many, 4, 3):
            yield (random, lore) + some_change(random, lore)

    def class_map(self, lore, other, names):
        """For each class its number in the other lore."""
        return [class_of(other, self.anew(names, row[0])) for row in classes(lore)]

    def pick_map(self, lore, other, names, pick):
        """A pick told by the ways of the other lore."""
        numbers = self.class_map(lore, other, names)
        found = [0] * len(pick)
        for number, k in enumerate(pick):
            sign, parts = ways(lore)[number][k]
            way = (names[sign], tuple(numbers[part] for part in parts))
            found[numbers[number]] = ways(other)[numbers[number]].index(way)
        return tuple(found)

    def test_numbers(self):
        for _, lore, other, names in self.some(60, 1):
            for call in (worth, count_picks, load, is_least, lambda one: sum(losses(one)), lambda one: len(told_terms(one))):
                self.assertEqual(call(lore), call(other))
            self.assertEqual(len(classes(lore)), len(classes(other)))
            self.assertEqual(len(thinned(lore).lines) - worth(lore) >= 0, len(thinned(other).lines) - worth(other) >= 0)
            if len(classes(lore)) <= 7:
                for call in (count_joinings, fall, level, lambda one: share(one, 3), lambda one: len(told_by(one).lines)):
                    self.assertEqual(call(lore), call(other))
            if count_picks(lore) <= 40:
                self.assertEqual(self.ordered(lore), self.ordered(other))

    def ordered(self, lore):
        try:
            return count_ordered(lore)
        except TooMany as error:
            return ("too many", error.most)

    def test_terms(self):
        for random, lore, other, names in self.some(60, 2):
            terms = told(lore.lines) + [some_term(random, lore.signs, 3) for _ in range(4)]
            for term in terms:
                further = random.choice(terms)
                new, new_further = self.anew(names, term), self.anew(names, further)
                flag = equal(lore, term, further)
                self.assertIs(equal(other, new, new_further), flag)
                self.assertIs(paper(other, new, new_further) is not None, flag)
                self.assertIs(class_of(lore, term) is None, class_of(other, new) is None)
                self.assertIs(is_term(other, new), True)
                self.assertEqual(gain(lore, (term, further)), gain(other, (new_further, new)))
                lots = shortest(lore, term, further), shortest(other, new, new_further)
                self.assertEqual(*[None if lot is None else len(lot) for lot in lots])
                if len(classes(lore)) <= 5:
                    self.assertEqual(share_equal(lore, term, further, 4), share_equal(other, new_further, new, 4))
                    self.assertEqual(long_run(lore, term, further), long_run(other, new, new_further))

    def test_classes(self):
        for _, lore, other, names in self.some(60, 3):
            weights = {sign: 1 + len(sign) + k for k, (sign, _) in enumerate(lore.signs)}
            new_weights = {names[sign]: weight for sign, weight in weights.items()}
            least, new_least = least_weights(lore, weights), least_weights(other, new_weights)
            self.assertEqual(least_weight(lore, weights), least_weight(other, new_weights))
            for number, new_number in enumerate(self.class_map(lore, other, names)):
                self.assertEqual(least[number], new_least[new_number])
                self.assertIs(has_endless(lore, number), has_endless(other, new_number))
                self.assertEqual([count_terms(lore, number, k) for k in (1, 2, 5, 9)], [
                    count_terms(other, new_number, k) for k in (1, 2, 5, 9)])
                self.assertEqual(len(can_pick(lore)[number]), len(can_pick(other)[new_number]))
                self.assertEqual({self.anew(names, term) for term in classes(lore)[number]}, set(classes(other)[new_number]))

    def test_picks_and_books(self):
        for random, lore, other, names in self.some(40, 4):
            many = count_picks(lore)
            picks = [pick_at(lore, random.randrange(many)) for _ in range(4)]
            new_picks = [self.pick_map(lore, other, names, pick) for pick in picks]
            for pick, new_pick in zip(picks, new_picks):
                self.assertIs(is_pick(other, new_pick), True)
                rules = {tuple(self.anew(names, side) for side in rule) for rule in book(lore, pick)}
                self.assertEqual(rules, set(book(other, new_pick)))
                self.assertEqual(pick_of(other, tuple(rules)), new_pick)
                for term in told(lore.lines)[-3:] + [some_term(random, lore.signs, 3)]:
                    new = self.anew(names, term)
                    self.assertEqual(wrong_places(lore, pick, term), wrong_places(other, new_pick, new))
                    self.assertEqual(self.anew(names, answer(lore, book(lore, pick), term)), answer(
                        other, book(other, new_pick), new))
            for k in range(3):
                pair, new_pair = picks[k:k + 2], new_picks[k:k + 2]
                self.assertEqual(count_changes(lore, *pair), count_changes(other, *new_pair))
                self.assertEqual(rules_kept(lore, *pair), rules_kept(other, *new_pair))
                self.assertEqual(len(changes(lore, *pair)), len(changes(other, *new_pair)))

    def test_lores_of_lores(self):
        for random, lore, other, names in self.some(60, 5):
            self.assertIs(alike(renamed(lore, names), other), True)
            kept = [pair for pair in lore.signs if pair[1] == 0 or random.random() < 0.5]
            lot = tuple(k for k, pair in enumerate(lore.signs) if pair in kept)
            new_lot = tuple(k for k, (name, _) in enumerate(other.signs) if name in [names[sign] for sign, _ in kept])
            self.assertIs(alike(renamed(about(lore, lot), {sign: names[sign] for sign, _ in kept}), about(other, new_lot)), True)
            self.assertIs(alike(renamed(thinned(lore), names), thinned(other)), True)
            if len(classes(lore)) <= 9:
                self.assertEqual(len(told_by(lore).lines), len(told_by(other).lines))

    def test_two_lores(self):
        random = Random(6)
        row = [lore for lore in some_lores(120, 4, 3) if lore.signs == TWO.signs] + [TWO, Lore(TWO.signs, ())]
        for one, other in zip(row, row[1:]):
            names = {"a": "y", "b": "cc", "f": "ba"}
            changed = []
            for lore in (one, other):
                lines = list(renamed(lore, names).lines)
                random.shuffle(lines)
                changed.append(Lore(renamed(lore, names).signs, tuple(line[::-1] for line in lines)))
            self.assertIs(tells(one, other), tells(*changed))
            row_of_letters, new_row = letters(one, other), letters(*changed)
            self.assertEqual(len(row_of_letters), len(new_row))
            self.assertIs(is_letters(*changed, [renamed(letter, names) for letter in row_of_letters]), True)
            if max(len(classes(one)), len(classes(other))) <= 6:
                self.assertIs(endless(one, other) is None, endless(*changed) is None)
                if common(one, other) is not None:
                    self.assertIs(alike(renamed(common(one, other), names), common(*changed)), True)

    def test_live_lores(self):
        random = Random(8)
        for lore in [TWO, FOUR, REST] + some_lores(30, 4, 3):
            other, names = some_change(random, lore)
            wishes = [random.choice(told(lore.lines)) for _ in range(3)] if lore.lines else []
            lives = Live(lore.signs), Live(other.signs)
            for term in wishes:
                lives[0].wish(term)
                lives[1].wish(self.anew(names, term))
            for live, one in zip(lives, (lore, other)):
                for line in one.lines:
                    live.tell(line)
            self.assertEqual(lives[0].granted(), lives[1].granted())
            self.assertEqual(len(lives[0].book()), len(lives[1].book()))


if __name__ == "__main__":
    unittest.main()

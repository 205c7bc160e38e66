"""Promise 2.4: worlds."""

import unittest
from itertools import product
from random import Random

from neatbooks.changing import with_line
from neatbooks.errors import NoTerm, NoWorld
from neatbooks.hall import classes, equal
from neatbooks.lores import Lore, told_terms
from neatbooks.worlds import first_broken, is_parting, keeps, value, world
from tests.samples import A, B, BARE, C, FOUR, LOOP, TWICE, TWO, WIDE, are_equal, chain, f, g, h, nested, odd_things
from tests.samples import sixty_lines, some_lores, some_term

# Two things: a is 0, b is 1, f changes them about. It keeps TWO.
TURN = (2, {"a": {(): 0}, "b": {(): 1}, "f": {(0,): 1, (1,): 0}})
STAY = (2, {"a": {(): 0}, "b": {(): 1}, "f": {(0,): 0, (1,): 1}})
ALL_ONE = (1, {"a": {(): 0}, "b": {(): 0}, "f": {(0,): 0}})


def slow_value(tables, term):
    return tables[term[0]][tuple(slow_value(tables, part) for part in term[1:])]


def all_worlds(signs, many):
    """All worlds with so many things."""
    keys = [(sign, row) for sign, places in signs for row in product(range(many), repeat=places)]
    for things in product(range(many), repeat=len(keys)):
        tables = {sign: {} for sign, _ in signs}
        for (sign, row), thing in zip(keys, things):
            tables[sign][row] = thing
        yield (many, tables)


def with_part(sign, table):
    """TURN with another table for a sign."""
    return (2, {**TURN[1], sign: table})


def wrong_worlds():
    """What is nearly a world for TWO."""
    tables = TURN[1]
    found = [
        (0, tables), (-1, tables), (3, tables), (1, tables), (True, ALL_ONE[1]), (2,), (2, tables, 0), [2, tables],
        (tables, 2), ("2", tables), (None, tables), (10 ** 39, tables), (2, None), (2, list(tables)), (2, {}),
        (2, {"a": {(): 0}, "b": {(): 1}}), (2, {**tables, "g": {(0,): 0, (1,): 0}}), (2, {**tables, 0: {}}),
        (2, {"a": {(): 0}, "b": {(): 1}, "g": {(0,): 0, (1,): 0}}), (0, {"a": {}, "b": {}, "f": {}}),
    ]
    for table in (
        {}, {(0,): 0}, {(0,): 0, (1,): 2}, {(0,): 0, (1,): -1}, {(0,): 0, (1,): True}, {(0,): False, (1,): 1},
        {(0,): 0, (1,): None}, {(0,): 0, (2,): 0}, {0: 0, 1: 0}, {(0,): 0, 1: 0}, {(0,): 0, (1,): 0, (2,): 0},
        {(0,): 0, (1, 1): 0}, {(0,): 0, (): 0}, {"0": 0, "1": 0}, {(0,): 0, ("1",): 0}, [0, 0], ((0, 1), (1, 0)),
        {(0,): 0, (1,): (0,)}, {(0,): 0, (-1,): 0}, None, 0, {(0,): 0, (None,): 0}, {(0,): "0", (1,): 1},
        {(0,): 0, ((1,),): 0}, {(0,): 0, (1,): nested(lambda part: [part], 50)},
    ):
        found.append(with_part("f", table))
    for table in ({}, {(): 2}, {(): True}, {(): None}, {(): 0, (0,): 0}, {(0,): 0}, {0: 0}, 0, (), [0], {None: 0}):
        found.append(with_part("b", table))
    return found


class Worlds(unittest.TestCase):
    def test_value(self):
        self.assertEqual([value(TWO, TURN, term) for term in (A, B, f(A), f(B), f(f(A)))], [0, 1, 1, 0, 0])
        self.assertEqual(value(TWO, TURN, chain("f", 29, A)), 1)
        lore = Lore((("a", 0), ("b", 0), ("h", 2)), ())
        tables = {"a": {(): 0}, "b": {(): 1}, "h": {(0, 0): 1, (0, 1): 0, (1, 0): 1, (1, 1): 1}}
        self.assertEqual([value(lore, (2, tables), h(one, other)) for one in (A, B) for other in (A, B)], [1, 0, 1, 1])

    def test_keeps_and_first_broken(self):
        self.assertIs(keeps(TWO, TURN), True)
        self.assertIs(first_broken(TWO, TURN), None)
        self.assertIs(keeps(TWO, STAY), False)
        self.assertEqual(first_broken(TWO, STAY), 0)
        lore = Lore(TWO.signs, ((A, A), (f(A), A), (A, B), (f(B), A)))
        self.assertEqual(first_broken(lore, STAY), 2)
        self.assertEqual(first_broken(lore, TURN), 1)
        self.assertIs(keeps(lore, ALL_ONE), True)

    def test_all_worlds_with_two_things(self):
        lore = Lore(TWO.signs, ((f(f(A)), A), (f(B), f(f(B)))))
        for one in all_worlds(TWO.signs, 2):
            broken = [k for k, (left, right) in enumerate(lore.lines)
                      if slow_value(one[1], left) != slow_value(one[1], right)]
            self.assertEqual(first_broken(lore, one), min(broken, default=None))
            self.assertIs(keeps(lore, one), not broken)
            self.assertEqual(value(lore, one, f(f(B))), slow_value(one[1], f(f(B))))
            parting = not broken and slow_value(one[1], A) != slow_value(one[1], f(B))
            self.assertIs(is_parting(lore, A, f(B), one), parting)

    def test_what_is_equal_has_one_value_in_each_world_that_keeps_the_lore(self):
        for lore in (TWO, TWICE, LOOP, Lore(TWO.signs, ((f(f(A)), f(B)),))):
            terms = [A, f(A), f(f(A)), f(f(f(A)))] + ([B, f(B)] if lore.signs == TWO.signs else [])
            for many in (1, 2, 3):
                for one in all_worlds(lore.signs, many):
                    for term in terms if keeps(lore, one) else []:
                        same = value(lore, one, term) == value(lore, one, A)
                        self.assertTrue(same or not equal(lore, term, A))

    def test_no_world(self):
        for thing in wrong_worlds() + odd_things():
            for call in (
                lambda: value(TWO, thing, A), lambda: keeps(TWO, thing), lambda: first_broken(TWO, thing),
                lambda: value(TWO, thing, C),
            ):
                self.assertRaises(NoWorld, call)
            self.assertIs(is_parting(TWO, A, B, thing), False)

    def test_odd_things_within_a_world(self):
        for thing in odd_things():
            self.assertRaises(NoWorld, keeps, TWO, (2, thing))
            self.assertRaises(NoWorld, keeps, TWO, (thing, TURN[1]))
            self.assertRaises(NoWorld, keeps, TWO, with_part("f", thing))
            self.assertRaises(NoWorld, keeps, TWO, with_part("f", {(0,): 0, (1,): thing, (2,): 0}))
            if type(thing) is not int or thing not in (0, 1):
                self.assertRaises(NoWorld, keeps, TWO, with_part("f", {(0,): 0, (1,): thing}))

    def test_no_term(self):
        for thing in odd_things() + [C, f(C), ("f",), ["a"], chain("f", 57, ["a"])]:
            if thing != A:
                for call in (
                    lambda: value(TWO, TURN, thing), lambda: is_parting(TWO, thing, A, TURN),
                    lambda: is_parting(TWO, A, thing, None),
                ):
                    self.assertRaises(NoTerm, call)

    def test_is_parting(self):
        self.assertIs(is_parting(TWO, A, B, TURN), True)
        self.assertIs(is_parting(TWO, A, f(A), TURN), True)
        self.assertIs(is_parting(TWO, A, f(B), TURN), False)
        self.assertIs(is_parting(TWO, A, B, STAY), False)
        self.assertIs(is_parting(BARE, A, B, TURN), False)
        self.assertIs(is_parting(TWO, A, B, ALL_ONE), False)

    def test_twenty_things(self):
        many = 20
        rows = {(k, m): (k * m + 1) % many for k in range(many) for m in range(many)}
        great = (many, {"a": {(): 3}, "h": rows})
        lore = Lore((("a", 0), ("h", 2)), ((h(A, A), A),))
        self.assertEqual(value(lore, great, h(A, A)), 10)
        self.assertEqual(first_broken(lore, great), 0)
        del rows[(7, 7)]
        self.assertRaises(NoWorld, keeps, lore, great)


class ToldWorld(unittest.TestCase):
    def check(self, lore):
        found = world(lore)
        self.assertIs(type(found), tuple)
        self.assertTrue(1 <= found[0] <= len(classes(lore)) + 1)
        self.assertIs(keeps(lore, found), True)
        values = [{value(lore, found, term) for term in row} for row in classes(lore)]
        self.assertTrue(all(len(row) == 1 for row in values))
        self.assertEqual(len(set().union(*values)), len(classes(lore)))

    def test_many_lores(self):
        for lore in [TWO, LOOP, FOUR, BARE, TWICE] + some_lores(60, 5):
            self.check(lore)

    def test_great_lores(self):
        self.check(Lore(WIDE, sixty_lines()))
        self.check(with_line(Lore(WIDE, ((A, B),) * 24), (C, f(C))))
        self.check(Lore(WIDE, tuple((chain("g", k, A), chain("f", k, A)) for k in range(24))))

    def test_it_parts_unequal_terms_when_they_are_told(self):
        random = Random(4)
        for lore in some_lores(50):
            one = some_term(random, lore.signs, 4)
            other = some_term(random, lore.signs, 4)
            further = with_line(with_line(lore, (one, one)), (other, other))
            self.assertIs(is_parting(lore, one, other, world(further)), not are_equal(lore, one, other))

    def test_told_terms_of_unlike_classes(self):
        for lore in (TWO, FOUR, TWICE):
            for one in told_terms(lore):
                for other in told_terms(lore):
                    self.assertIs(is_parting(lore, one, other, world(lore)), not equal(lore, one, other))

    def test_new_each_time_and_the_same(self):
        one, other = world(TWO), world(TWO)
        self.assertEqual(one, other)
        self.assertIsNot(one[1], other[1])
        one[1]["a"].clear()
        one[1].clear()
        self.assertEqual(world(TWO), other)
        keeps(TWO, other)
        self.assertEqual(world(TWO), other)

    def test_tables_are_not_shared(self):
        tables = list(world(TWO)[1].values())
        self.assertEqual(len({id(table) for table in tables}), len(tables))


if __name__ == "__main__":
    unittest.main()

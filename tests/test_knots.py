"""Promise 3.2, of it how many choices do not go round: the ways of counting held against one another."""

import unittest
from itertools import product
from random import Random

from neatbooks.counting import count_picks, pick_at, pick_number
from neatbooks.knots import count_by_sets, count_fitting, count_rows, knots_of
from neatbooks.lores import Lore
from tests.samples import row_of_signs


def some_options(random, many, most_options, most_parts, starts):
    """Options for so many classes, some of them with one that needs nothing."""
    found = []
    for _ in range(many):
        row = [()] if random.random() < starts else []
        for _ in range(random.randrange(1, most_options + 1)):
            row.append(tuple(random.randrange(many) for _ in range(random.randrange(1, most_parts + 1))))
        found.append(row)
    return found


def is_fitting(choice):
    """Whether all can be made, one behind the other, of the parts that are chosen."""
    made = set()
    for _ in choice:
        made |= {number for number, parts in enumerate(choice) if set(parts) <= made}
    return len(made) == len(choice)


def rows_of(random, many, most_options):
    """Rows of classes that need some of one another."""
    rows = {}
    for k in range(many):
        row = {}
        for _ in range(random.randrange(2, most_options + 1)):
            mask = random.randrange(1 << many) & random.randrange(1 << many)
            row[mask] = row.get(mask, 0) + 1
        rows[1 << k] = row
    return rows


class Knots(unittest.TestCase):
    def test_choice_by_choice(self):
        random = Random(3)
        seen = 0
        for number in range(600):
            most = 2 + number % 4
            options = some_options(random, random.randrange(1, 6), most, 1 + number % 2, 0.5)
            count = sum(is_fitting(choice) for choice in product(*options))
            self.assertEqual(count_fitting(options), count, options)
            seen += count > 3
        self.assertGreater(seen, 100)

    def test_set_by_set_and_knot_by_knot(self):
        random = Random(4)
        for number in range(120):
            rows = rows_of(random, random.randrange(1, 9), 2 + number % 4)
            whole = {bit: {mask: many for mask, many in row.items() if mask & bit == 0} for bit, row in rows.items()}
            self.assertEqual(count_rows(rows), count_by_sets(whole))

    def test_knots(self):
        self.assertEqual(knots_of({1: {0: 1, 2: 1}, 2: {4: 1}, 4: {1: 2}, 8: {1: 1}, 16: {24: 1, 16: 2}}), [7, 8, 16])
        self.assertEqual(knots_of({}), [])
        random = Random(5)
        for _ in range(100):
            rows = rows_of(random, 7, 3)
            self.assertEqual(sum(knots_of(rows)), 2 ** 7 - 1)

    def test_without_classes_and_with_a_ring_alone(self):
        self.assertEqual(count_fitting([]), 1)
        self.assertEqual(count_fitting([[(1,)], [(0,)]]), 0)
        self.assertEqual(count_fitting([[(0,), (0,)]]), 0)
        self.assertEqual(count_fitting([[(), (), (0,)]]), 2)

    def test_the_ring_of_eleven_signs(self):
        names = "abcdefghijk"
        lore = Lore(tuple((name, 0) for name in names) + (("z", 1),), tuple(
            ((names[i],), ("z", (names[i - 1],))) for i in range(11)))
        self.assertEqual(lore, row_of_signs(11, True))
        self.assertEqual(count_picks(lore), 2047)
        self.assertEqual(pick_at(lore, 2046), (1,) * 10 + (0,))
        self.assertEqual(pick_number(lore, (1,) * 10 + (0,)), 2046)
        for number in range(0, 2047, 31):
            self.assertEqual(pick_number(lore, pick_at(lore, number)), number)

    def test_eleven_classes_that_need_one_another(self):
        # Each may be made of nothing, or of any one of the others: so there are as many choices as rooted forests.
        for many in range(1, 12):
            options = [[()] + [(k,) for k in range(many) if k != number] for number in range(many)]
            self.assertEqual(count_fitting(options), (many + 1) ** (many - 1))


if __name__ == "__main__":
    unittest.main()

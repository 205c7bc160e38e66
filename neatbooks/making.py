"""What classes are made of by their ways: orders, least costs, and answers by their numbers in a bank."""

from heapq import heapify, heappop, heappush

from neatbooks.trees import Bank


def made_order(parts):
    """The numbers of things, each behind its parts; those that go round, or need what does, are not among them."""
    users = [[] for _ in parts]
    missing = [len(row) for row in parts]
    for number, row in enumerate(parts):
        for part in row:
            users[part].append(number)
    found = [number for number, many in enumerate(missing) if many == 0]
    at = 0
    while at < len(found):
        number = found[at]
        for user in users[number]:
            missing[user] -= 1
            if missing[user] == 0:
                found.append(user)
        at += 1
    return found


def least_costs(rows):
    """A dict, cheap ones first, from what can be made to the pairs (least cost, number of the row that makes it).

    A row (made, cost, parts, note) makes a thing of its parts, for its own cost above 0 and theirs.
    """
    users = {}
    missing = []
    for number, (_, _, parts, _) in enumerate(rows):
        missing.append(len(parts))
        for part in parts:
            users.setdefault(part, []).append(number)
    queue = [(row[1], number) for number, row in enumerate(rows) if len(row[2]) == 0]
    heapify(queue)
    found = {}
    while queue:
        cost, number = heappop(queue)
        made = rows[number][0]
        if made not in found:
            found[made] = (cost, number)
            for user in users.get(made, []):
                missing[user] -= 1
                if missing[user] == 0:
                    heappush(queue, (rows[user][1] + sum([found[part][0] for part in rows[user][2]]), user))
    return found


class Least:
    """A least term for each thing that can be made by rows as least_costs asks for them, their notes being signs."""

    def __init__(self, rows):
        self.rows = rows
        self.costs = least_costs(rows)
        self.least = {}
        for made, (_, number) in self.costs.items():
            _, _, parts, sign = rows[number]
            self.least[made] = self.term_of(sign, parts)

    def term_of(self, sign, parts):
        """The term that a sign makes of the least ones of its parts."""
        return (sign,) + tuple([self.least[part] for part in parts])

    def sized_ways(self):
        """For each thing the list of the pairs (size, term), one for each of its ways, of what is least made in it."""
        found = {}
        for made, cost, parts, sign in self.rows:
            if all([part in self.costs for part in parts]):
                size = cost + sum([self.costs[part][0] for part in parts])
                found.setdefault(made, []).append((size, self.term_of(sign, parts)))
        return list(found.values())


def joint_mask(masks, parts):
    """The mask of all that some things need."""
    found = 0
    for part in parts:
        found = found | masks[part]
    return found


def option_masks(options):
    """For each class with two options or more the masks of such classes that its options need.

    Options are the parts of the ways that a class may have. Where each class that has but
    one stands for what this one is made of, the others go round if all do. None if those
    that have but one go round by themselves.
    """
    parts = [rows[0] if len(rows) == 1 else () for rows in options]
    order = made_order(parts)
    if len(order) < len(options):
        return None
    masks = [0] * len(options)
    choosing = [number for number, rows in enumerate(options) if len(rows) > 1]
    for bit, number in enumerate(choosing):
        masks[number] = 1 << bit
    for number in order:
        if len(options[number]) == 1:
            masks[number] = joint_mask(masks, parts[number])
    return [[joint_mask(masks, row) for row in options[number]] for number in choosing]


def chosen_ways(ways, choice):
    """For each class its chosen way."""
    return [row[number] for row, number in zip(ways, choice)]


def total_size(ways, pick):
    """How many signs the answers of a pick have together."""
    parts = [row for _, row in chosen_ways(ways, pick)]
    sizes = [0] * len(parts)
    for number in made_order(parts):
        sizes[number] = 1 + sum([sizes[part] for part in parts[number]])
    return sum(sizes)


class Making:
    """The answers of a pick and the rules of its book, told by their numbers in a bank."""

    def __init__(self, bank, ways, pick):
        self.bank = bank
        self.numbers = [0] * len(ways)
        chosen = chosen_ways(ways, pick)
        for number in made_order([parts for _, parts in chosen]):
            self.numbers[number] = self.make(chosen[number])
        self.pairs = []
        for number, row in enumerate(ways):
            for k, way in enumerate(row):
                if k != pick[number]:
                    self.pairs.append((self.make(way), self.numbers[number]))

    def make(self, way):
        """The number of what a way makes of the answers."""
        sign, parts = way
        return self.bank.number_of(sign, tuple([self.numbers[part] for part in parts]))


def making(ways, pick):
    """The making of a pick in a bank of its own."""
    return Making(Bank(), ways, pick)

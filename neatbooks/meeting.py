"""Two halls held against one another: which classes meet, and what they tell beyond one another's classes."""

from neatbooks.making import Least, least_costs

HOLE = ("_",)


def each_of(rows):
    """All tuples of one thing of each row, ascending as the rows are."""
    found = [()]
    for row in rows:
        found = [head + (thing,) for head in found for thing in row]
    return found


def ways_by_sign(table):
    """A dict from signs to the lists of the pairs (classes of the parts, class) of a hall's table."""
    found = {}
    for (sign, parts), made in table.items():
        found.setdefault(sign, []).append((parts, made))
    return found


def around(sign, parts):
    """Two terms of one sign, of the first and of the second ones of its parts."""
    return ((sign,) + tuple([one for one, _ in parts]), (sign,) + tuple([other for _, other in parts]))


class Meeting(Least):
    """The pairs of a class of each of two halls that have some term in common, each with a least such term."""

    def __init__(self, one, other):
        rows = []
        others = ways_by_sign(other.table)
        for (sign, parts), made in one.table.items():
            for other_parts, other_made in others.get(sign, []):
                rows.append(((made, other_made), 1, tuple(zip(parts, other_parts)), sign))
        Least.__init__(self, rows)


class Tie:
    """What two terms that are equal by the free hall, but to none of its told ones, may be by the tied hall.

    This is told by pairs of classes of the tied hall. A row's note is a triple: the sign, its
    children (pair, class of the free hall, or None for what is in none), and whether the two
    ways of the tied hall are unlike. Steps lead from a child in no class to what is made.
    """

    def __init__(self, free, tied):
        self.free = free
        self.tied = tied
        self.meeting = Meeting(tied, free)
        self.rows = []
        for sign, ways in ways_by_sign(tied.table).items():
            for way in ways:
                for other_way in ways:
                    self.add_rows(sign, way, other_way)
        self.costs = least_costs(self.rows)
        self.ends = {}
        for pair, (_, number) in self.costs.items():
            sign, children, _ = self.rows[number][3]
            self.ends[pair] = around(sign, [self.terms_of(child) for child in children])
        self.steps = {}
        self.roofs = {}
        self.add_steps()
        self.tops = least_costs(self.top_rows())

    def add_rows(self, sign, way, other_way):
        """Adds the rows of two ways of one sign, one for each choice of classes of the free hall for their parts."""
        parts, made = way
        other_parts, other_made = other_way
        pairs = list(zip(parts, other_parts))
        for row in each_of([self.meeting_classes(pair) + [None] for pair in pairs]):
            if (sign, row) not in self.free.table:
                children = tuple(zip(pairs, row))
                cost = 2 + sum([self.cost_in(pair, number) for pair, number in children if number is not None])
                needs = tuple([pair for pair, number in children if number is None])
                self.rows.append(((made, other_made), cost, needs, (sign, children, parts != other_parts)))

    def meeting_classes(self, pair):
        """The list of the classes of the free hall that meet both of a pair."""
        one, other = pair
        costs = self.meeting.costs
        many = len(self.free.classes)
        return [number for number in range(many) if (one, number) in costs and (other, number) in costs]

    def cost_in(self, pair, number):
        """The least size of two terms of a class of the free hall that are in a pair."""
        return self.meeting.costs[(pair[0], number)][0] + self.meeting.costs[(pair[1], number)][0]

    def terms_of(self, child):
        """Two terms for a child."""
        pair, number = child
        if number is None:
            return self.ends[pair]
        return (self.meeting.least[(pair[0], number)], self.meeting.least[(pair[1], number)])

    def add_steps(self):
        """Finds the cheapest steps from pair to pair, and to a roof, which joins two unlike ways."""
        for row, (made, cost, needs, note) in enumerate(self.rows):
            if all([pair in self.costs for pair in needs]):
                total = cost + sum([self.costs[pair][0] for pair in needs])
                for place, (pair, number) in enumerate(note[1]):
                    if number is None:
                        step = (total - self.costs[pair][0], row, place)
                        self.steps[(pair, made)] = min(step, self.steps.get((pair, made), step))
                        if note[2] and made[0] == made[1]:
                            self.roofs[pair] = min(step, self.roofs.get(pair, step))

    def top_rows(self):
        """Rows for least_costs, for the cheapest ways from pairs up to a roof."""
        rows = [(pair, step[0], (), step) for pair, step in self.roofs.items()]
        return rows + [(low, step[0], (high,), step) for (low, high), step in self.steps.items()]

    def ring_rows(self, goal):
        """Rows for least_costs, for the cheapest ways from pairs up to a pair."""
        found = []
        for (low, high), step in self.steps.items():
            found.append((low, step[0], () if high == goal else (high,), step))
        return found

    def is_useful(self, numbers):
        """Whether some pair of some classes of the tied hall leads up to a roof."""
        return any([(one, other) in self.tops for one in numbers for other in numbers])

    def holed(self, rows, costs, start):
        """Two holed terms that lead up from a pair by the cheapest way."""
        found = (HOLE, HOLE)
        pair = start
        while pair is not None:
            _, _, further, (_, row, place) = rows[costs[pair][1]]
            sign, children, _ = self.rows[row][3]
            parts = [self.terms_of(child) for child in children]
            parts[place] = found
            found = around(sign, parts)
            pair = further[0] if len(further) > 0 else None
        return found

    def endless(self):
        """The cheapest ends, rings and tops, None if there are none."""
        best = None
        for pair in self.tops:
            costs = least_costs(self.ring_rows(pair))
            if pair in costs:
                total = self.costs[pair][0] + costs[pair][0] + self.tops[pair][0]
                if best is None or total < best[0]:
                    best = (total, pair, costs)
        if best is None:
            return None
        _, pair, costs = best
        return self.ends[pair] + self.holed(self.ring_rows(pair), costs, pair) + self.holed(
            self.top_rows(), self.tops, pair)

"""Which terms are equal by the lines, like for like: the classes of told terms and their ways."""

from neatbooks.trees import Bank, ascending, from_within


class Merger:
    """Unites numbers, and keeps what united them as the edges (one, other, line) of a forest.

    The line is None where both were united because they are like. What two numbers that
    are united once are united by stays the same, whatever edges come behind.
    """

    def __init__(self, many):
        self.homes = list(range(many))
        self.edges = []

    def home(self, number):
        """The number that stands for all that are united with a number."""
        while self.homes[number] != number:
            self.homes[number] = self.homes[self.homes[number]]
            number = self.homes[number]
        return number

    def unite(self, one, other, line):
        """Unites two numbers, if they are not; the home of the one stays, so that ways told by it stay right."""
        home = self.home(other)
        if home != self.home(one):
            self.homes[home] = self.home(one)
            self.edges.append((one, other, line))

    def unite_likes(self, shapes):
        """Unites the numbers whose shapes have come to be one: whether there were some."""
        ahead = {}
        many = len(self.edges)
        for number, (sign, parts) in enumerate(shapes):
            way = (sign, tuple([self.home(part) for part in parts]))
            self.unite(ahead.setdefault(way, number), number, None)
        return len(self.edges) > many


def united(shapes, pairs):
    """The merger of terms with these shapes, of which pairs are told equal."""
    merger = Merger(len(shapes))
    for line, (one, other) in enumerate(pairs):
        merger.unite(one, other, line)
    while merger.unite_likes(shapes):
        pass
    return merger


class Hall:
    """The classes of a lore's told terms, their ways, and a table from ways to classes."""

    def __init__(self, lore):
        bank = Bank()
        pairs = bank.take_lines(lore.lines)
        merger = united(bank.shapes, pairs)
        numbers = {}
        members = []
        for told in ascending(bank):
            home = merger.home(told)
            if home not in numbers:
                numbers[home] = len(members)
                members.append([])
            members[numbers[home]].append(bank.terms[told])
        self.classes = tuple([tuple(row) for row in members])
        self.table = {}
        for told, (sign, parts) in enumerate(bank.shapes):
            way = (sign, tuple([numbers[merger.home(part)] for part in parts]))
            self.table[way] = numbers[merger.home(told)]
        rows = [[] for _ in members]
        for way in sorted(self.table):
            rows[self.table[way]].append(way)
        self.ways = tuple([tuple(row) for row in rows])

    def worth(self):
        """How many more ways than classes there are."""
        return len(self.table) - len(self.classes)


class Spots:
    """Numbers for terms, equal ones having one: those of classes by a hall's table, behind these further ones."""

    def __init__(self, table):
        self.table = table
        self.further = {}

    def spot(self, sign, parts):
        """The number of what is made of a sign and of parts with these numbers."""
        way = (sign, parts)
        if way in self.table:
            return self.table[way]
        return self.further.setdefault(way, len(self.table) + len(self.further))

    def spot_of(self, term):
        """The number of a term."""
        return from_within(term, lambda sign, parts: self.spot(sign, parts))

    def are_one(self, one, other):
        """Whether two terms are equal."""
        return self.spot_of(one) == self.spot_of(other)

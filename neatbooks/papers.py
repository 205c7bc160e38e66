"""Papers that show two terms to be equal."""

from neatbooks.closure import united
from neatbooks.judging import TripleJudge
from neatbooks.lores import need_term
from neatbooks.shapes import are_numbers_below, is_number_below
from neatbooks.trees import Bank


class Sheet:
    """Writes a paper, its terms being told by their numbers in a bank."""

    def __init__(self, bank, edges):
        self.bank = bank
        self.edges = edges
        self.near = [[] for _ in bank.shapes]
        for edge, (one, other, _) in enumerate(edges):
            self.near[one].append((edge, other))
            self.near[other].append((edge, one))
        self.triples = []
        self.known = {}

    def path(self, one, other):
        """The pairs (edge, number it leads to) of the way from one number to another one."""
        came = {one: None}
        left = [one]
        while other not in came:
            number = left.pop()
            for edge, further in self.near[number]:
                if further not in came:
                    came[further] = (edge, number)
                    left.append(further)
        found = []
        while came[other] is not None:
            edge, number = came[other]
            found.append((edge, other))
            other = number
        return found[::-1]

    def parts(self, edge):
        """The pairs of parts of what an edge leads from and to."""
        one, other, _ = self.edges[edge]
        return list(zip(self.bank.shapes[one][1], self.bank.shapes[other][1]))

    def needed(self, one, other):
        """The ascending list of the edges by which two numbers are equal: an edge needs elder ones alone."""
        wanted = {edge: True for edge, _ in self.path(one, other)}
        for edge in range(len(self.edges) - 1, -1, -1):
            if edge in wanted and self.edges[edge][2] is None:
                for part, other_part in self.parts(edge):
                    for elder, _ in self.path(part, other_part):
                        wanted[elder] = True
        return sorted(wanted)

    def put(self, one, other, reason):
        """The number of the triple for two numbers, which is written if it is not there."""
        if (one, other) not in self.known:
            self.known[(one, other)] = len(self.triples)
            self.triples.append((self.bank.terms[one], self.bank.terms[other], reason))
        return self.known[(one, other)]

    def step(self, one, other):
        """The number of a triple for the two ends of an edge that is written."""
        if (one, other) in self.known:
            return self.known[(one, other)]
        return self.put(one, other, ("turn", self.known[(other, one)]))

    def lead(self, one, other):
        """The number of a triple that leads from one number to another one, the edges between being written."""
        path = self.path(one, other)
        if len(path) == 0:
            return self.put(one, other, ("same",))
        last = path[0][1]
        found = self.step(one, last)
        for _, further in path[1:]:
            found = self.put(one, further, ("on", found, self.step(last, further)))
            last = further
        return found

    def write(self, edge):
        """Writes an edge, the elder ones that it needs being written."""
        one, other, line = self.edges[edge]
        if line is None:
            leads = [self.lead(part, other_part) for part, other_part in self.parts(edge)]
            self.put(one, other, ("like", tuple(leads)))
        else:
            self.put(one, other, ("line", line))


def paper(lore, term, other_term):
    """A paper for two terms, None if they are not equal."""
    need_term(lore, term)
    need_term(lore, other_term)
    bank = Bank()
    pairs = bank.take_lines(lore.lines)
    one = bank.take(term)
    other = bank.take(other_term)
    merger = united(bank.shapes, pairs)
    if merger.home(one) != merger.home(other):
        return None
    sheet = Sheet(bank, merger.edges)
    for edge in sheet.needed(one, other):
        sheet.write(edge)
    sheet.lead(one, other)
    return sheet.triples


class PaperJudge(TripleJudge):
    """Judges the triples of a paper."""

    def __init__(self, lore, bank):
        TripleJudge.__init__(self, lore, bank)
        self.lines = bank.take_lines(lore.lines)

    def is_own_reason(self, pair, thing):
        """Whether a tuple that begins with a word is a reason for a pair."""
        if thing[0] == "same":
            return len(thing) == 1 and pair[0] == pair[1]
        if len(thing) != 2:
            return False
        if thing[0] == "line":
            return is_number_below(thing[1], len(self.lines)) and self.lines[thing[1]] == pair
        if thing[0] == "turn":
            return is_number_below(thing[1], len(self.pairs)) and self.pairs[thing[1]] == (pair[1], pair[0])
        return thing[0] == "like" and self.is_like(pair, thing[1])

    def are_likes(self, rows, things):
        """Whether the things are the numbers of triples that lead from part to part."""
        return are_numbers_below(things, len(self.pairs)) and [self.pairs[k] for k in things] == rows


def is_paper(lore, term, other_term, thing):
    """Whether a thing is a paper for two terms."""
    need_term(lore, term)
    need_term(lore, other_term)
    if not isinstance(thing, list):
        return False
    judge = PaperJudge(lore, Bank())
    return judge.lets_all(thing) and judge.pairs[-1] == (judge.bank.take(term), judge.bank.take(other_term))

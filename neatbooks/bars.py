"""Bars: trees of cases that show that a book has no ranks."""

from neatbooks.books import need_work
from neatbooks.judging import TripleJudge
from neatbooks.lores import is_term
from neatbooks.orders import bank_of, searched
from neatbooks.shapes import is_number_below, is_tuple_of


class Log:
    """What stands above what, and why, its terms being told by their numbers: all that follows till it goes round."""

    def __init__(self, frame, cases):
        self.frame = frame
        self.triples = []
        self.known = {}
        self.rings = []
        for rule, (left, right) in enumerate(frame.pairs):
            self.put(left, right, ("rule", rule))
        for one, (_, parts) in enumerate(frame.shapes):
            for part in parts:
                self.put(one, part, ("part",))
        for one, other in cases:
            self.put(one, other, ("case",))

    def put(self, one, other, reason):
        """Writes a triple, if none is there for the pair."""
        if (one, other) not in self.known:
            self.known[(one, other)] = len(self.triples)
            self.triples.append((one, other, reason))
            if one == other:
                self.rings.append(len(self.triples) - 1)

    def put_on(self, at):
        """Writes what follows from the triple with a number and from those ahead."""
        one, other, _ = self.triples[at]
        ahead = self.triples[:at]
        for k, (upper, lower, _) in enumerate(ahead):
            if other == upper:
                self.put(one, lower, ("on", at, k))
            if lower == one:
                self.put(upper, other, ("on", k, at))

    def put_likes(self):
        """Writes what follows for terms because it stands so with their parts."""
        for one, other, unlike in self.frame.likes:
            if all([pair in self.known for pair in unlike]):
                _, parts = self.frame.shapes[one]
                _, other_parts = self.frame.shapes[other]
                numbers = [self.known.get(pair) for pair in zip(parts, other_parts)]
                self.put(one, other, ("like", tuple(numbers)))

    def close(self):
        """Writes till something stands above itself."""
        at = 0
        while len(self.rings) == 0:
            if at == len(self.triples):
                self.put_likes()
            self.put_on(at)
            at += 1

    def wanted(self):
        """The ascending list of the numbers of the triples that the first ring needs."""
        found = {self.rings[0]: True}
        for k in range(self.rings[0], -1, -1):
            if k in found:
                for number in numbers_in(self.triples[k][2]):
                    found[number] = True
        return sorted(found)

    def shown(self, terms):
        """The log that is needed, with terms."""
        self.close()
        numbers = {}
        rows = []
        for k in self.wanted():
            one, other, reason = self.triples[k]
            numbers[k] = len(rows)
            rows.append((terms[one], terms[other], renumbered(reason, numbers)))
        return tuple(rows)


def numbers_in(reason):
    """The numbers of the triples that a reason names."""
    if reason[0] == "on":
        return list(reason[1:])
    if reason[0] == "like":
        return [number for number in reason[1] if number is not None]
    return []


def renumbered(reason, numbers):
    """A reason with other numbers of triples."""
    if reason[0] == "on":
        return ("on", numbers[reason[1]], numbers[reason[2]])
    if reason[0] == "like":
        return ("like", tuple([numbers.get(number) for number in reason[1]]))
    return reason


def shown_tree(frame, terms, tree, cases):
    """The bar of a tree of cases: where it ends, a log tells what goes round."""
    if tree is None:
        return ("ring", Log(frame, cases).shown(terms))
    one, other, above, beneath = tree
    return (
        "cases", terms[one], terms[other],
        shown_tree(frame, terms, above, cases + [(one, other)]),
        shown_tree(frame, terms, beneath, cases + [(other, one)]),
    )


def bar(lore, book):
    """A bar, None if the book has ranks."""
    bank, frame, below, tree = searched(lore, book)
    if below is not None:
        return None
    return shown_tree(frame, bank.terms, tree, [])


class LogJudge(TripleJudge):
    """Judges the triples of a log, the rules and the cases being pairs of numbers in a bank."""

    def __init__(self, lore, bank, rules, cases):
        TripleJudge.__init__(self, lore, bank)
        self.rules = rules
        self.cases = cases

    def is_own_reason(self, pair, thing):
        """Whether a tuple that begins with a word is a reason for a pair."""
        if thing[0] == "part":
            _, parts = self.bank.shapes[pair[0]]
            return len(thing) == 1 and pair[1] in parts
        if thing[0] == "case":
            return len(thing) == 1 and pair in self.cases
        if len(thing) != 2:
            return False
        if thing[0] == "rule":
            return is_number_below(thing[1], len(self.rules)) and self.rules[thing[1]] == pair
        return thing[0] == "like" and self.is_like(pair, thing[1])

    def are_likes(self, rows, things):
        """Whether the things tell for each pair of parts that both are one or by which triple they stand so."""
        for row, number in zip(rows, things):
            if row[0] == row[1]:
                if number is not None:
                    return False
            elif not is_number_below(number, len(self.pairs)) or self.pairs[number] != row:
                return False
        return any([part != other_part for part, other_part in rows])

    def is_ring(self, thing):
        """Whether a thing is a tuple of triples the last of which has one term twice."""
        return isinstance(thing, tuple) and self.lets_all(thing) and self.pairs[-1][0] == self.pairs[-1][1]


class BarJudge:
    """Judges a bar, branch by branch."""

    def __init__(self, lore, book):
        self.owner = lore
        self.bank, self.rules = bank_of(book)
        self.many = len(self.bank.shapes)

    def case_of(self, term, other_term):
        """The pair of numbers of two things, None if they are not unlike terms within the book's sides."""
        if not is_term(self.owner, term) or not is_term(self.owner, other_term):
            return None
        one = self.bank.take(term)
        other = self.bank.take(other_term)
        if one == other or one >= self.many or other >= self.many:
            return None
        return (one, other)

    def branches(self, thing, cases):
        """The pairs of a tree and its cases into which a thing branches, None if it does not as it may."""
        if is_tuple_of(thing, 5) and is_word(thing[0], "cases"):
            case = self.case_of(thing[1], thing[2])
            if case is None:
                return None
            return [(thing[3], cases + [case]), (thing[4], cases + [(case[1], case[0])])]
        if not is_tuple_of(thing, 2) or not is_word(thing[0], "ring"):
            return None
        judge = LogJudge(self.owner, self.bank, self.rules, cases)
        return [] if judge.is_ring(thing[1]) else None

    def lets_tree(self, thing):
        """Whether a thing is a bar."""
        left = [(thing, [])]
        while len(left) > 0:
            tree, cases = left.pop()
            further = self.branches(tree, cases)
            if further is None:
                return False
            left.extend(further)
        return True


def is_word(thing, word):
    """Whether a thing is a word."""
    return isinstance(thing, str) and thing == word


def is_bar(lore, book, thing):
    """Whether a thing is a bar."""
    need_work(lore, book)
    return BarJudge(lore, book).lets_tree(thing)

"""A book at work: where its left sides stand within terms, and what replacing them leads to."""

from neatbooks.trees import Bank, from_within


class Work:
    """A book at work on terms, which are told by their numbers in a bank.

    An answer is made from within. What a right side, on which the book does not work, is put
    into needs a look only once its parts are answers: each left side is met at the place ().
    """

    def __init__(self, rules):
        self.bank = Bank()
        self.pairs = self.bank.take_lines(rules)
        self.rights = dict(self.pairs)
        self.rule_numbers = {}
        for number, (left, _) in enumerate(self.pairs):
            self.rule_numbers.setdefault(left, number)
        self.flags = []

    def is_worked(self, number):
        """Whether a left side is within what has a number."""
        known = len(self.flags)
        for further in range(known, len(self.bank.shapes)):
            _, parts = self.bank.shapes[further]
            self.flags.append(further in self.rights or any([self.flags[part] for part in parts]))
        return self.flags[number]

    def wrongly_worked(self, left, right):
        """Whether a rule's sides are worked on as they may not be."""
        _, parts = self.bank.shapes[left]
        return self.is_worked(right) or any([self.is_worked(part) for part in parts])

    def reduced(self, sign, parts):
        """The number of the answer of a sign and of parts that are answers."""
        number = self.bank.number_of(sign, parts)
        return self.rights.get(number, number)

    def answer_number(self, term):
        """The number of a term's answer."""
        return from_within(term, lambda sign, parts: self.reduced(sign, parts))

    def steps_at(self, number):
        """The ascending list of the pairs (place, rule's number) at which a left side stands."""
        found = []
        left = [((), number)]
        while left:
            place, here = left.pop()
            if here in self.rule_numbers:
                found.append((place, self.rule_numbers[here]))
            _, parts = self.bank.shapes[here]
            for k in reversed(range(len(parts))):
                if self.is_worked(parts[k]):
                    left.append((place + (k,), parts[k]))
        return found

    def replaced(self, number, place):
        """The number of what has the left side at a place replaced."""
        path = [number]
        for k in place:
            path.append(self.bank.shapes[path[-1]][1][k])
        made = self.rights[path[-1]]
        for depth in reversed(range(len(place))):
            sign, parts = self.bank.shapes[path[depth]]
            k = place[depth]
            made = self.bank.number_of(sign, parts[:k] + (made,) + parts[k + 1:])
        return made

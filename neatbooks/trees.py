"""Terms as trees. They are walked without recursion, for no depth is to be too great."""


def fits(places, thing):
    """Whether a thing is a term of the signs that are the keys of places."""
    left = [thing]
    while left:
        node = left.pop()
        if not isinstance(node, tuple) or len(node) == 0:
            return False
        sign = node[0]
        if not isinstance(sign, str) or sign not in places or len(node) != places[sign] + 1:
            return False
        left.extend(node[1:])
    return True


def nodes(term):
    """All that is within a term, as often as it stands there, wholes ahead of parts, from left to right."""
    found = []
    left = [term]
    while left:
        node = left.pop()
        found.append(node)
        left.extend(node[:0:-1])
    return found


def words(term):
    """The tuple of the signs of a term, in the order in which its text has them.

    Terms of one lore are one exactly if their words are, and Python orders them as it
    orders their words: the words are flat, so that to compare them needs no recursion.
    """
    return tuple([node[0] for node in nodes(term)])


def order_key(term):
    """What terms of one lore are ordered by."""
    signs = words(term)
    return (len(signs), signs)


def from_within(term, maker):
    """What maker(sign, what it made of the parts) makes of a term, from within."""
    made = []
    for node in reversed(nodes(term)):
        parts = []
        for _ in range(len(node) - 1):
            parts.append(made.pop())
        made.append(maker(node[0], tuple(parts)))
    return made.pop()


class Bank:
    """Gives unlike terms unlike numbers, to parts lower ones than to what is made of them."""

    def __init__(self):
        self.table = {}
        self.shapes = []
        self.terms = []

    def number_of(self, sign, parts):
        """The number of the term of a sign and of the numbers of its parts."""
        shape = (sign, parts)
        if shape not in self.table:
            self.table[shape] = len(self.shapes)
            self.shapes.append(shape)
            self.terms.append((sign,) + tuple([self.terms[part] for part in parts]))
        return self.table[shape]

    def take(self, term):
        """The number of a term."""
        return from_within(term, lambda sign, parts: self.number_of(sign, parts))

    def take_lines(self, lines):
        """The pairs of numbers of the sides of some lines."""
        return [(self.take(one), self.take(other)) for one, other in lines]


def ascending(bank):
    """The list of the numbers of a bank's terms, in the order of the terms: words are asked for where sizes tie."""
    sizes = []
    many = {}
    for _, parts in bank.shapes:
        size = 1 + sum([sizes[part] for part in parts])
        sizes.append(size)
        many[size] = many.get(size, 0) + 1
    keys = [(size, words(term) if many[size] > 1 else ()) for size, term in zip(sizes, bank.terms)]
    return sorted(range(len(keys)), key=lambda number: keys[number])

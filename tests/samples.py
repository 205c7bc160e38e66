"""Lores, terms and odd things that the tests share."""

from random import Random

from neatbooks.errors import LoreError, NoName, NoTerm
from neatbooks.lores import Lore

A = ("a",)
B = ("b",)
C = ("c",)


def f(part):
    return ("f", part)


def g(part):
    return ("g", part)


def h(one, other):
    return ("h", one, other)


LOOP = Lore((("a", 0), ("f", 1)), ((A, f(A)),))
TWO = Lore((("a", 0), ("b", 0), ("f", 1)), ((f(A), B), (f(B), A)))
FOUR = Lore((("a", 0), ("b", 0), ("f", 1), ("g", 1)), ((f(A), f(B)), (g(A), g(B))))
ONE = Lore(FOUR.signs, ((A, B),))
REST = Lore(FOUR.signs, ((f(A), A), (f(B), B), (g(A), g(B))))
TWICE = Lore(LOOP.signs, ((f(f(A)), A), (f(f(f(A))), A)))
BARE = Lore(FOUR.signs, ())
WIDE = (("a", 0), ("b", 0), ("c", 0), ("f", 1), ("g", 1), ("h", 2))


def chain(sign, many, end):
    """The end, with a sign put around it so many times."""
    for _ in range(many):
        end = (sign, end)
    return end


def nested(make, many):
    """An empty tuple, with something put around it so many times."""
    thing = ()
    for _ in range(many):
        thing = make(thing)
    return thing


def sixty_lines():
    """Lines of WIDE with just 60 unlike told terms."""
    return ((chain("f", 29, A), chain("g", 29, A)), (B, A))


def odd_things():
    """Objects of many built-in types and of classes of the package, none of which the document names."""
    return [
        None, True, False, 0, 1, -1, 10 ** 39, "", "a", "f(a)", "a b", "\n", b"a", bytearray(b"a"), (), [], {},
        ((),), [[]], [()], ("a",), ["a"], ("a", 0), (("a", 0),), (1, {}), (True, {}), (0, 0), (0,), (None,),
        {"a": "b"}, {0: 0}, {None: ()}, {(): ()}, {"a": {}}, range(3), slice(1), object(), len, int, str, Lore,
        NoTerm, NoTerm(), NoName([1]), LoreError("a"), TWO, NotImplemented, Ellipsis, lambda: 1, iter([]),
        memoryview(b"a"), zip(), (part for part in ()), {}.keys(), "".join, type(None),
        nested(lambda part: (part,), 59), nested(lambda part: [part], 59), nested(lambda part: {"a": part}, 59),
        nested(lambda part: ("f", part), 59), nested(lambda part: ["f", part], 59),
        nested(lambda part: (part, part), 12), [0] * 9999, (0,) * 9999,
    ]


def within(term):
    """The dict of all terms within a term, told apart by Python itself."""
    found = {term: True}
    for part in term[1:]:
        found.update(within(part))
    return found


def told(lines):
    """The told terms of some lines, ascending as the document orders them."""
    found = {}
    for line in lines:
        for side in line:
            found.update(within(side))
    return sorted(found, key=lambda term: (how_great(term), term))


def how_great(term):
    """How many signs stand in a term."""
    return 1 + sum(how_great(part) for part in term[1:])


def blocks(terms, lines):
    """A dict from terms, with all within them, to marks that equal ones have in common: found by going over all
    pairs of terms until nothing changes."""
    marks = {term: number for number, term in enumerate(terms)}

    def unite(one, other):
        old, new = marks[one], marks[other]
        for term in marks:
            if marks[term] == old:
                marks[term] = new
        return old != new

    for one, other in lines:
        unite(one, other)
    changed = True
    while changed:
        changed = False
        for one in terms:
            for other in terms:
                alike = one[0] == other[0] and all(marks[p] == marks[q] for p, q in zip(one[1:], other[1:]))
                if alike and unite(one, other):
                    changed = True
    return marks


def are_equal(lore, one, other):
    """Whether two terms are equal by a lore, found the slow way."""
    marks = blocks(told(lore.lines + ((one, other),)), lore.lines)
    return marks[one] == marks[other]


def some_term(random, signs, depth):
    """A term of some signs, at most so deep."""
    pairs = [pair for pair in signs if depth > 1 or pair[1] == 0]
    sign, places = random.choice(pairs)
    return (sign,) + tuple(some_term(random, signs, depth - 1) for _ in range(places))


def some_lores(many, most_lines=4, depth=3):
    """So many small lores, the same ones each time."""
    random = Random(20)
    found = []
    for number in range(many):
        signs = [WIDE, TWO.signs, LOOP.signs, FOUR.signs, (("a", 0), ("h", 2))][number % 5]
        lines = []
        for _ in range(random.randrange(most_lines + 1)):
            lines.append((some_term(random, signs, depth), some_term(random, signs, depth)))
        found.append(Lore(signs, tuple(lines)))
    return found

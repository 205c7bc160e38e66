"""Lores, terms and odd things that the tests share."""

from itertools import product
from random import Random

from neatbooks.changing import joined, with_line
from neatbooks.errors import LoreError, NoName, NoTerm
from neatbooks.hall import ways
from neatbooks.lores import Lore, is_term

A = ("a",)
B = ("b",)
C = ("c",)


def f(part):
    return ("f", part)


def g(part):
    return ("g", part)


def h(one, other):
    return ("h", one, other)


LOOP = Lore((("a", 0), ("f", 1)), ((A, f(A)),))
TWO = Lore((("a", 0), ("b", 0), ("f", 1)), ((f(A), B), (f(B), A)))
FOUR = Lore((("a", 0), ("b", 0), ("f", 1), ("g", 1)), ((f(A), f(B)), (g(A), g(B))))
ONE = Lore(FOUR.signs, ((A, B),))
REST = Lore(FOUR.signs, ((f(A), A), (f(B), B), (g(A), g(B))))
TWICE = Lore(LOOP.signs, ((f(f(A)), A), (f(f(f(A))), A)))
BARE = Lore(FOUR.signs, ())
WIDE = (("a", 0), ("b", 0), ("c", 0), ("f", 1), ("g", 1), ("h", 2))


def chain(sign, many, end):
    """The end, with a sign put around it so many times."""
    for _ in range(many):
        end = (sign, end)
    return end


def nested(make, many):
    """An empty tuple, with something put around it so many times."""
    thing = ()
    for _ in range(many):
        thing = make(thing)
    return thing


def sixty_lines():
    """Lines of WIDE with just 60 unlike told terms."""
    return ((chain("f", 29, A), chain("g", 29, A)), (B, A))


def odd_things():
    """Objects of many built-in types and of classes of the package, none of which the document names."""
    return [
        None, True, False, 0, 1, -1, 10 ** 39, "", "a", "f(a)", "a b", "\n", b"a", bytearray(b"a"), (), [], {},
        ((),), [[]], [()], ("a",), ["a"], ("a", 0), (("a", 0),), (1, {}), (True, {}), (0, 0), (0,), (None,),
        {"a": "b"}, {0: 0}, {None: ()}, {(): ()}, {"a": {}}, range(3), slice(1), object(), len, int, str, Lore,
        NoTerm, NoTerm(), NoName([1]), LoreError("a"), TWO, NotImplemented, Ellipsis, lambda: 1, iter([]),
        memoryview(b"a"), zip(), (part for part in ()), {}.keys(), "".join, type(None),
        nested(lambda part: (part,), 59), nested(lambda part: [part], 59), nested(lambda part: {"a": part}, 59),
        nested(lambda part: ("f", part), 59), nested(lambda part: ["f", part], 59),
        nested(lambda part: (part, part), 12), [0] * 9999, (0,) * 9999,
    ]


def within(term):
    """The dict of all terms within a term, told apart by Python itself."""
    found = {term: True}
    for part in term[1:]:
        found.update(within(part))
    return found


def told(lines):
    """The told terms of some lines, ascending as the document orders them."""
    found = {}
    for line in lines:
        for side in line:
            found.update(within(side))
    return sorted(found, key=lambda term: (how_great(term), term))


def how_great(term):
    """How many signs stand in a term."""
    return 1 + sum(how_great(part) for part in term[1:])


def blocks(terms, lines):
    """A dict from terms, with all within them, to marks that equal ones have in common: found by going over all
    pairs of terms until nothing changes."""
    marks = {term: number for number, term in enumerate(terms)}

    def unite(one, other):
        old, new = marks[one], marks[other]
        for term in marks:
            if marks[term] == old:
                marks[term] = new
        return old != new

    for one, other in lines:
        unite(one, other)
    changed = True
    while changed:
        changed = False
        for one in terms:
            for other in terms:
                alike = one[0] == other[0] and all(marks[p] == marks[q] for p, q in zip(one[1:], other[1:]))
                if alike and unite(one, other):
                    changed = True
    return marks


def are_equal(lore, one, other):
    """Whether two terms are equal by a lore, found the slow way."""
    marks = blocks(told(lore.lines + ((one, other),)), lore.lines)
    return marks[one] == marks[other]


def some_term(random, signs, depth):
    """A term of some signs, at most so deep."""
    pairs = [pair for pair in signs if depth > 1 or pair[1] == 0]
    sign, places = random.choice(pairs)
    return (sign,) + tuple(some_term(random, signs, depth - 1) for _ in range(places))


def small_terms(signs, most_size, most):
    """All terms of some signs up to a size, or somewhat more than a number of them."""
    rows = [[]]
    while len(rows) <= most_size and sum(map(len, rows)) < most:
        size = len(rows)
        row = [(sign,) for sign, places in signs if places == 0 and size == 1]
        row += [(sign, part) for sign, places in signs if places == 1 for part in rows[size - 1]]
        for k in range(1, size - 1):
            row += [(s, p, q) for s, places in signs if places == 2 for p in rows[k] for q in rows[size - 1 - k]]
        rows.append(row)
    return [term for row in rows for term in row]


def marks_of(lore, terms):
    """What equal terms have in common, for each term: its class, or its sign and what its parts have."""
    table = {way: number for number, row in enumerate(ways(lore)) for way in row}

    def mark(term):
        way = (term[0], tuple(mark(part) for part in term[1:]))
        return table.get(way, way)

    return [mark(term) for term in terms]


def some_lores(many, most_lines=4, depth=3):
    """So many small lores, the same ones each time."""
    random = Random(20)
    found = []
    for number in range(many):
        signs = [WIDE, TWO.signs, LOOP.signs, FOUR.signs, (("a", 0), ("h", 2))][number % 5]
        lines = []
        for _ in range(random.randrange(most_lines + 1)):
            lines.append((some_term(random, signs, depth), some_term(random, signs, depth)))
        found.append(Lore(signs, tuple(lines)))
    return found


def choices(lore):
    """All choices of a lore, ascending."""
    return list(product(*[range(len(row)) for row in ways(lore)]))


def parts_of(lore, choice):
    """For each class the set of the classes in its chosen way."""
    return [set(row[number][1]) for row, number in zip(ways(lore), choice)]


def goes_round(lore, choice):
    """Whether some class stands among what it is made of: found by going on from class to class."""
    reached = dict(enumerate(parts_of(lore, choice)))
    for _ in choice:
        for c in reached:
            reached[c] = reached[c].union(*[reached[d] for d in reached[c]])
    return any(c in reached[c] for c in reached)


def picks_of(lore):
    """All picks of a lore, ascending, found choice by choice."""
    return [choice for choice in choices(lore) if not goes_round(lore, choice)]


def small_lores(most_choices=60, most_classes=6, many=200):
    """Lores with few choices, the document's among them."""
    found = [lore for lore in [LOOP, TWO, FOUR, TWICE, ONE, REST, BARE] + some_lores(many, 5, 3)
             if len(ways(lore)) <= most_classes]
    return [lore for lore in found if len(choices(lore)) <= most_choices]


def spots_of(term, place=()):
    """The list of the pairs (place, what is there) of a term, ascending."""
    found = [(place, term)]
    for k, part in enumerate(term[1:]):
        found += spots_of(part, place + (k,))
    return found


def put(term, place, part):
    """A term with something else at a place."""
    if not place:
        return part
    k = place[0] + 1
    return term[:k] + (put(term[k], place[1:], part),) + term[k + 1:]


def replaced(thing, at, part):
    """A list or tuple with another thing at a place."""
    return thing[:at] + type(thing)([part]) + thing[at + 1:]


def slow_answer(rules, term):
    """What is left of a term when the first rule that works is put to work, again and again."""
    while True:
        found = [(place, right) for place, part in spots_of(term) for left, right in rules if left == part]
        if not found:
            return term
        term = put(term, *found[0])


def slow_answers(lore, pick):
    """The answers of a pick, made as the document tells."""
    chosen = [row[k] for row, k in zip(ways(lore), pick)]

    def answer(number):
        sign, parts = chosen[number]
        return (sign,) + tuple(answer(part) for part in parts)

    return tuple(answer(number) for number in range(len(pick)))


def slow_book(lore, pick):
    """The book of a pick, made as the document tells."""
    made = slow_answers(lore, pick)
    rules = []
    for number, row in enumerate(ways(lore)):
        for k, (sign, parts) in enumerate(row):
            if k != pick[number]:
                rules.append(((sign,) + tuple(made[part] for part in parts), made[number]))
    return tuple(sorted(rules, key=lambda rule: (how_great(rule[0]), rule[0])))


def wrong_choices():
    """What is no choice for TWO."""
    return [
        (0,), (0, 0, 0), (0, 2), (2, 0), (-1, 0), (0, -1), (False, 0), (0, True), [0, 0], ("0", 0), (None, None),
        (0, (0,)), {0: 0, 1: 0}, "00", b"00", range(2), nested(lambda part: (0, part), 59),
    ]


def no_picks():
    """What is no pick of TWO."""
    return [thing for thing in odd_things() + wrong_choices() if repr(thing) != "(0, 0)"] + [(1, 1)]


def layers(many):
    """A lore with so many classes of two ways each, every choice of which is a pick."""
    return Lore(WIDE, tuple((chain("f", k, A), chain("g", k, A)) for k in range(1, many + 1)))


def row_of_signs(many, closed):
    """Signs told equal to what z makes of the one ahead; if closed, the first one to what it makes of the last."""
    names = "abcdefghijk"[:many]
    lines = [((names[k],), ("z", (names[k - 1],))) for k in range(0 if closed else 1, many)]
    return Lore(tuple((name, 0) for name in names) + (("z", 1),), tuple(lines))


def doublings(tops, many=8):
    """A lore of signs each told equal to two of the one ahead, and of some terms told equal to themselves."""
    names = "abcdefghij"
    lines = [((names[k + 1],), ("t", (names[k],), (names[k],))) for k in range(many)]
    signs = tuple((name, 0) for name in names) + (("s", 1), ("t", 2))
    return Lore(signs, tuple(lines) + tuple((top, top) for top in tops))


def greatest_pick(lore):
    """The pick that takes the last way of each class."""
    return tuple(len(row) - 1 for row in ways(lore))


def just_two_thousand(more=0):
    """A lore whose greatest pick has answers of 2000 signs together, or of one more."""
    tops = [("t", ("i",), ("h",)), ("t", ("g",), ("f",)), ("s", ("d",)), ("s", ("c",)), ("s", ("b",))]
    return doublings(tops + [("s", A) if more else ("j",)])


def doubled_eleven_times():
    """A lore in which three signs are told equal to terms in which the one ahead is doubled again and again."""
    lines = []
    for name, ahead, many in (("b", A, 4), ("c", ("b",), 4), ("d", ("c",), 3)):
        term = ahead
        for _ in range(many):
            term = ("t", term, term)
        lines.append(((name,), term))
    return Lore((("a", 0), ("b", 0), ("c", 0), ("d", 0), ("t", 2)), tuple(lines))


def slow_fault(lore, thing):
    """The fault of a book, word by word as the document says."""
    if type(thing) is not tuple:
        return ("form",)
    for rule in thing:
        if type(rule) is not tuple or len(rule) != 2 or not is_term(lore, rule[0]) or not is_term(lore, rule[1]):
            return ("form",)
    lefts = [left for left, _ in thing]
    for k, (left, right) in enumerate(thing):
        if not are_equal(lore, left, right):
            return ("lies", k)
    for k, left in enumerate(lefts):
        if left in lefts[:k]:
            return ("twice", k)
    for k, (left, right) in enumerate(thing):
        if any(part in lefts for _, part in spots_of(right)):
            return ("worked", k)
        if any(part in lefts for place, part in spots_of(left) if place != ()):
            return ("worked", k)
    for k, (one, other) in enumerate(lore.lines):
        if slow_answer(thing, one) != slow_answer(thing, other):
            return ("misses", k)
    return None


def changed_books(lore, rules):
    """Books that differ from a book in one thing, or in their order."""
    yield rules[::-1]
    yield rules[1:] + rules[:1]
    for k, (left, right) in enumerate(rules):
        yield rules[:k] + rules[k + 1:]
        yield rules + (rules[k],)
        yield replaced(rules, k, (right, left))
        yield replaced(rules, k, (left, left))
        yield replaced(rules, k, (right, right))
        for term in {side for rule in rules for side in rule} | {side for line in lore.lines for side in line}:
            yield replaced(rules, k, (left, term))
            yield replaced(rules, k, (term, right))
            yield rules + ((left, term),)
            yield rules + ((term, right),)
        for sign, places in lore.signs:
            if places == 1:
                yield replaced(rules, k, ((sign, left), (sign, right)))
                yield rules + (((sign, left), (sign, right)),)
            if places == 2:
                yield replaced(rules, k, ((sign, right, left), (sign, right, right)))


def no_books(lore, rules):
    """What is no book in its form."""
    found = [list(rules), rules + ((),), rules + ((A,),), rules + ((A, A, A),), rules + ([A, A],), rules + (A,)]
    found += [rules + ((A, ["a"]),), rules + ((A, ("q",)),), rules + (("a", "a"),), {rule: 0 for rule in rules}]
    found += [rules + ((A, thing),) for thing in odd_things() if not is_term(lore, thing)]
    found += [rules + ((thing, A),) for thing in odd_things() if not is_term(lore, thing)]
    found += [rules + (thing,) for thing in odd_things()]
    return found + [thing for thing in odd_things() if thing != ()] + [((chain("f", 57, ["a"]), A),)]


DOUBLED = ("a", "da", "db", "dc", "dd", "de", "df", "dg", "dh")


def sized(size):
    """A term that has so many signs, if the names for a's doublings are told."""
    if size % 2 == 0:
        return ("u", sized(size - 1))
    k = max(k for k in range(9) if 2 ** (k + 1) - 1 <= size)
    name = (DOUBLED[k],)
    return name if size == 2 ** (k + 1) - 1 else h(name, sized(size - 2 ** (k + 1)))


def with_names(signs, lines):
    """A lore with names for a's doublings, further signs and further lines."""
    lore = Lore(tuple((name, 0) for name in DOUBLED) + (("h", 2), ("u", 1)), tuple(
        ((other,), h((one,), (one,))) for one, other in zip(DOUBLED, DOUBLED[1:])))
    lore = joined(lore, Lore(signs, ()))
    for line in lines:
        lore = with_line(lore, line)
    return lore

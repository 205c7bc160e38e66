"""What must stand above what among a book's terms, and the search for an order of them, case by case."""


def put_above(below, one, other):
    """Puts one number above another one, below being the masks of what stands below each."""
    more = below[other] | 1 << other
    for number, mask in enumerate(list(below)):
        if number == one or mask >> one & 1 == 1:
            below[number] = mask | more


def is_above(below, one, other):
    """Whether one number is known to stand above another one."""
    return below[one] >> other & 1 == 1


def goes_round(below):
    """Whether some number is known to stand above itself."""
    return any([is_above(below, number, number) for number in range(len(below))])


class Frame:
    """What must hold of an order of some terms, which are told by their numbers in a bank.

    The pairs are the rules' sides. What is known of an order is the list below: for each
    number the mask of those that stand below it, or None if it goes round.
    """

    def __init__(self, shapes, pairs):
        self.shapes = shapes
        self.pairs = pairs
        self.likes = []
        for one, (sign, parts) in enumerate(shapes):
            for other, (other_sign, other_parts) in enumerate(shapes):
                if one != other and sign == other_sign:
                    unlike = [(part, further) for part, further in zip(parts, other_parts) if part != further]
                    self.likes.append((one, other, unlike))

    def start(self):
        """What is known ahead of all cases."""
        below = [0] * len(self.shapes)
        for one, (_, parts) in enumerate(self.shapes):
            for part in parts:
                put_above(below, one, part)
        for one, other in self.pairs:
            put_above(below, one, other)
        return self.closed(below)

    def implied(self, below):
        """The pairs that stand one above the other because their parts do."""
        found = []
        for one, other, unlike in self.likes:
            if not is_above(below, one, other) and all([is_above(below, part, further) for part, further in unlike]):
                found.append((one, other))
        return found

    def closed(self, below):
        """All that follows, None if it goes round; below is changed."""
        news = self.implied(below)
        while len(news) > 0 and not goes_round(below):
            for one, other in news:
                put_above(below, one, other)
            news = self.implied(below)
        return None if goes_round(below) else below

    def with_case(self, below, one, other):
        """What is known if one number stands above another one, too."""
        below = list(below)
        put_above(below, one, other)
        return self.closed(below)

    def is_settled(self, below, one, other, unlike):
        """Whether nothing more can be asked of two terms of one sign, whatever further cases bring."""
        ups = any([is_above(below, part, further) for part, further in unlike])
        downs = any([is_above(below, further, part) for part, further in unlike])
        if ups and downs:
            return True
        return ups and is_above(below, one, other) or downs and is_above(below, other, one)

    def open_pairs(self, below):
        """The ascending list of the pairs of parts whose order matters and is not known.

        Where there are none, any order that keeps to what is known will do.
        """
        found = {}
        for one, other, unlike in self.likes:
            if one > other and not self.is_settled(below, one, other, unlike):
                for part, further in unlike:
                    if not is_above(below, part, further) and not is_above(below, further, part):
                        found[(min(part, further), max(part, further))] = True
        return sorted(found)

    def next_case(self, below):
        """The pair whose order is to be asked next, with what is known in both cases; None if none is left.

        A pair of which one order goes round at once leaves one case alone, and comes first.
        """
        first = None
        for one, other in self.open_pairs(below):
            case = (one, other, self.with_case(below, one, other), self.with_case(below, other, one))
            if case[2] is None or case[3] is None:
                return case
            if first is None:
                first = case
        return first


def search(frame, below):
    """The pair of what is known of some order, and None; or of None and of a tree of cases that shows there is none.

    A tree is a tuple (one, other, tree, tree), or None where what is known goes round. It is
    as deep as there are pairs of terms at most: fourteen terms have 91.
    """
    if below is None:
        return (None, None)
    case = frame.next_case(below)
    if case is None:
        return (below, None)
    one, other, above, beneath = case
    found, tree = search(frame, above)
    if found is not None:
        return (found, None)
    found, other_tree = search(frame, beneath)
    if found is not None:
        return (found, None)
    return (None, (one, other, tree, other_tree))


def how_many(mask):
    """How many numbers are in a mask."""
    return len([at for at in range(mask.bit_length()) if mask >> at & 1 == 1])


def in_order(below):
    """The numbers in an order that keeps to what is known: what stands above something has more below it."""
    many = [how_many(mask) for mask in below]
    return sorted(range(len(below)), key=lambda number: (many[number], number))


def part_of_bank(shapes, pairs):
    """Shapes and pairs with other numbers, the shapes being just those within some pairs' terms."""
    wanted = {}
    for one, other in pairs:
        wanted[one] = True
        wanted[other] = True
    for number in reversed(range(len(shapes))):
        if number in wanted:
            _, parts = shapes[number]
            for part in parts:
                wanted[part] = True
    numbers = {}
    kept = []
    for number in sorted(wanted):
        sign, parts = shapes[number]
        numbers[number] = len(kept)
        kept.append((sign, tuple([numbers[part] for part in parts])))
    return (kept, [(numbers[one], numbers[other]) for one, other in pairs])

"""The errors of this package. Each is made with just its fields, whatever they are."""


class LoreError(ValueError):
    """What all errors of this package derive from."""


class BadLore(LoreError):
    """Signs and lines that make no lore; part tells what is wrong."""

    def __init__(self, part):
        LoreError.__init__(self, "this makes no lore")
        self.part = part


class NoTerm(LoreError):
    """What is no term of the lore's signs."""

    def __init__(self):
        LoreError.__init__(self, "this is no term of the lore")


class NoLine(LoreError):
    """What is no pair of terms of the lore's signs."""

    def __init__(self):
        LoreError.__init__(self, "this is no line of the lore's signs")


class NoLot(LoreError):
    """What is no lot of the numbers that are asked for."""

    def __init__(self):
        LoreError.__init__(self, "this is no such lot of numbers")


class NoNames(LoreError):
    """What is no dict from all signs to unlike signs."""

    def __init__(self):
        LoreError.__init__(self, "this gives not all signs unlike names")


class OtherSigns(LoreError):
    """Two lores whose signs do not go together."""

    def __init__(self):
        LoreError.__init__(self, "the signs of both do not go together")


class BadText(LoreError):
    """A text that cannot be read; place is where, 0 for what is no string."""

    def __init__(self, place):
        LoreError.__init__(self, "this text cannot be read")
        self.place = place


class NoWorld(LoreError):
    """What is no world for the lore."""

    def __init__(self):
        LoreError.__init__(self, "this is no world for the lore")


class NoChoice(LoreError):
    """What is no choice of a way for each class."""

    def __init__(self):
        LoreError.__init__(self, "this is no choice of the lore's ways")


class NoNumber(LoreError):
    """What is not one of the numbers that are asked for."""

    def __init__(self):
        LoreError.__init__(self, "this is no such number")


class NoPick(LoreError):
    """What is no pick of the lore."""

    def __init__(self):
        LoreError.__init__(self, "this is no pick of the lore")


class NoWishes(LoreError):
    """What is no dict from classes to numbers of their ways."""

    def __init__(self):
        LoreError.__init__(self, "these are no wishes for the lore's classes")


class NoBook(LoreError):
    """What is no neat book for the lore."""

    def __init__(self):
        LoreError.__init__(self, "this is no neat book for the lore")


class NoPlace(LoreError):
    """What is no place at which a left side stands."""

    def __init__(self):
        LoreError.__init__(self, "no left side stands at this place")


class BadStep(LoreError):
    """A chooser gave none of its steps; index is the number of that call."""

    def __init__(self, index):
        LoreError.__init__(self, "the chooser gave none of the steps")
        self.index = index


class NoWeights(LoreError):
    """What is no dict from all signs to weights."""

    def __init__(self):
        LoreError.__init__(self, "these are no weights for the lore's signs")


class NoRanks(LoreError):
    """What are no ranks for the book."""

    def __init__(self):
        LoreError.__init__(self, "these are no ranks for the book")


class NoEndless(LoreError):
    """What is no endless tuple for the two lores."""

    def __init__(self):
        LoreError.__init__(self, "this is not endless for both lores")


class NoJoining(LoreError):
    """What is no joining of the lore."""

    def __init__(self):
        LoreError.__init__(self, "this is no joining of the lore")


class NoClass(LoreError):
    """What is no number of a class."""

    def __init__(self):
        LoreError.__init__(self, "this is no number of a class")


class TooMany(LoreError):
    """More than the program takes on; most is how many it would."""

    def __init__(self, most):
        LoreError.__init__(self, "this is more than is taken on")
        self.most = most


class Full(LoreError):
    """A live lore that has room for no more."""

    def __init__(self):
        LoreError.__init__(self, "there is no room for more")


class NothingDone(LoreError):
    """There is nothing left to take back."""

    def __init__(self):
        LoreError.__init__(self, "there is nothing to take back")


class BadDeed(LoreError):
    """A journal's deed that is refused; line is where it stands, from 1."""

    def __init__(self, line):
        LoreError.__init__(self, "the deed in this line is refused")
        self.line = line


class NoAnswer(LoreError):
    """A judge gave no flag for these two terms."""

    def __init__(self, one, other):
        LoreError.__init__(self, "the judge gave no flag")
        self.one = one
        self.other = other


class NoForm(LoreError):
    """What is no line for the desk."""

    def __init__(self):
        LoreError.__init__(self, "this line has none of the forms")


class NoName(LoreError):
    """Nothing is kept under this name."""

    def __init__(self, name):
        LoreError.__init__(self, "nothing is kept under this name")
        self.name = name

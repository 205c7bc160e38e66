"""Terms and lores read from texts."""

from neatbooks.errors import BadText
from neatbooks.lores import Lore
from neatbooks.shapes import LETTERS, is_sign

PLACES = {"0": 0, "1": 1, "2": 2}


def beginnings(signs):
    """A dict with all that signs begin with."""
    found = {}
    for sign in signs:
        for end in range(1, len(sign) + 1):
            found[sign[:end]] = True
    return found


class TermReader:
    """Takes the characters of a term's text, as long as some term's text begins with them."""

    def __init__(self, places):
        self.places = places
        self.heads = beginnings(list(places))
        self.word = ""
        self.frames = []
        self.whole = None

    def takes(self, letter):
        """Takes one character more: whether some term's text goes on with it."""
        if letter in LETTERS:
            return self.takes_letter(letter)
        if letter == "(":
            return self.takes_bracket()
        return self.ends_part(letter)

    def takes_letter(self, letter):
        """Takes a letter of a sign."""
        if self.whole is not None or self.word + letter not in self.heads:
            return False
        self.word = self.word + letter
        return True

    def takes_bracket(self):
        """Takes the bracket behind a sign with places."""
        if self.places.get(self.word, 0) == 0:
            return False
        self.frames.append([self.word])
        self.word = ""
        return True

    def ends_part(self, letter):
        """Takes what stands behind a part: a comma before the next one, or a bracket behind the last one."""
        part = self.term_here()
        if part is None or len(self.frames) == 0:
            return False
        frame = self.frames[-1]
        missing = self.places[frame[0]] - len(frame)
        if letter != ("," if missing > 0 else ")"):
            return False
        frame.append(part)
        self.word = ""
        self.whole = None
        if letter == ")":
            self.whole = tuple(self.frames.pop())
        return True

    def term_here(self):
        """The term or part that ends here, None if none does: behind a bracket there is no word."""
        if self.places.get(self.word, 2) == 0:
            return (self.word,)
        return self.whole

    def finished(self):
        """The term that was read, None if more of it is to come."""
        if len(self.frames) > 0:
            return None
        return self.term_here()


def parsed(places, text):
    """The pair of a text's term, None if it has none, and of the place, from 1, at which it fails."""
    reader = TermReader(places)
    for number, letter in enumerate(text):
        if not reader.takes(letter):
            return (None, number + 1)
    return (reader.finished(), len(text) + 1)


def read_term(lore, text):
    """The term of a text."""
    if not isinstance(text, str):
        raise BadText(0)
    term, place = parsed(dict(lore.signs), text)
    if term is None:
        raise BadText(place)
    return term


def sign_of_row(row):
    """The pair of sign and places that a sign's row tells, None for another row."""
    parts = row.split(" ")
    if len(parts) != 3 or parts[0] != "sign" or not is_sign(parts[1]) or parts[2] not in PLACES:
        return None
    return (parts[1], PLACES[parts[2]])


def line_of_row(places, row):
    """The line that a row tells in the signs that are the keys of places, None for another row."""
    parts = row.split(" ")
    if len(parts) != 3 or parts[1] != "=":
        return None
    one, _ = parsed(places, parts[0])
    other, _ = parsed(places, parts[2])
    if one is None or other is None:
        return None
    return (one, other)


def take_row(places, found, row, reader):
    """Takes a row, a sign's or one for a reader, into the places or into what is found: whether it may stand here."""
    pair = sign_of_row(row)
    if pair is not None:
        if len(found) > 0 or pair[0] in places:
            return False
        places[pair[0]] = pair[1]
        return True
    thing = reader(places, row)
    if thing is None:
        return False
    found.append(thing)
    return True


def rows_read(text, reader):
    """What a text tells up to its first wrong row: its signs, what a reader reads of the others, this row or None.

    The signs are a dict, as they stand; the rows are counted from 1, and what stands behind the
    last line feed is a wrong one.
    """
    rows = text.split("\n")
    places = {}
    found = []
    for number, row in enumerate(rows[:-1]):
        if not take_row(places, found, row, reader):
            return (places, found, number + 1)
    return (places, found, None if rows[-1] == "" else len(rows))


def read_whole(text, reader):
    """The pair of the tuple of the signs of a text and of the tuple of what a reader reads of its other rows."""
    if not isinstance(text, str):
        raise BadText(0)
    places, found, wrong = rows_read(text, reader)
    if wrong is not None:
        raise BadText(wrong)
    return (tuple(places.items()), tuple(found))


def read_lore(text):
    """The lore of a text."""
    signs, lines = read_whole(text, line_of_row)
    return Lore(signs, lines)

"""A desk that keeps lores under names and answers line by line."""

from neatbooks.books import book
from neatbooks.counting import count_picks, pick_at
from neatbooks.errors import NoForm, NoName, NothingDone
from neatbooks.hall import equal, worth
from neatbooks.reading import read_lore, read_term
from neatbooks.runs import answer, wrong_places
from neatbooks.shapes import is_number_text, is_sign
from neatbooks.shares import fall, share
from neatbooks.texts import text_of


def say_equal(lore, numbers, terms):
    """Whether two terms are equal."""
    return "yes" if equal(lore, terms[0], terms[1]) else "no"


def say_worth(lore, numbers, terms):
    """The worth."""
    return str(worth(lore))


def say_picks(lore, numbers, terms):
    """How many picks there are."""
    return str(count_picks(lore))


def say_book(lore, numbers, terms):
    """The rules of the book of a pick."""
    rules = book(lore, pick_at(lore, numbers[0]))
    return " ".join([text_of(left) + ">" + text_of(right) for left, right in rules]) if len(rules) > 0 else "none"


def say_answer(lore, numbers, terms):
    """The answer of a term by the book of a pick."""
    return text_of(answer(lore, book(lore, pick_at(lore, numbers[0])), terms[0]))


def say_wrong(lore, numbers, terms):
    """How many wrong places of a term there are for a pick."""
    return str(len(wrong_places(lore, pick_at(lore, numbers[0]), terms[0])))


def say_fall(lore, numbers, terms):
    """The fall."""
    return str(fall(lore))


def say_share(lore, numbers, terms):
    """The share of the worlds with so many things that keep the lore."""
    top, bottom = share(lore, numbers[0])
    return f"{top}/{bottom}"


KINDS = {
    "drop": ("NAME",), "names": (), "show": ("NAME",), "undo": (), "equal": ("NAME", "TERM", "TERM"),
    "worth": ("NAME",), "picks": ("NAME",), "book": ("NAME", "NUMBER"), "answer": ("NAME", "NUMBER", "TERM"),
    "wrong": ("NAME", "NUMBER", "TERM"), "fall": ("NAME",), "share": ("NAME", "NUMBER"),
}
SAYINGS = {
    "equal": say_equal, "worth": say_worth, "picks": say_picks, "book": say_book, "answer": say_answer,
    "wrong": say_wrong, "fall": say_fall, "share": say_share,
}


def fits_kind(kind, word):
    """Whether a word of a line is of a kind."""
    if kind == "NAME":
        return is_sign(word)
    if kind == "NUMBER":
        return is_number_text(word)
    return len(word) > 0


def words_of(line):
    """The words of a line, its first one telling the form: raises NoForm for what has none."""
    if not isinstance(line, str) or "\n" in line:
        raise NoForm()
    words = line.split(" ")
    if words[0] == "lore":
        words = line.split(" ", 2)
        kinds = ("NAME", "TEXT")
    elif words[0] in KINDS:
        kinds = KINDS[words[0]]
    else:
        raise NoForm()
    if len(words) != len(kinds) + 1 or not all([fits_kind(kind, word) for kind, word in zip(kinds, words[1:])]):
        raise NoForm()
    return words


def say(lore, words):
    """What is asked of a lore by the words of a line."""
    rest = list(zip(KINDS[words[0]], words[1:]))
    numbers = [int(word) for kind, word in rest if kind == "NUMBER"]
    terms = [read_term(lore, word) for kind, word in rest if kind == "TERM"]
    action = SAYINGS[words[0]]
    return action(lore, numbers, terms)


class Desk:
    """Keeps lores and their texts under names, and, for each change, what was under that name ahead of it."""

    def __init__(self):
        self.kept = {}
        self.past = []

    def tell(self, line):
        """Does a line: what it answers."""
        words = words_of(line)
        if words[0] == "lore":
            return self.change(words[1], (words[2], read_lore(words[2].replace("|", "\n"))))
        if words[0] == "names":
            return " ".join(sorted(self.kept)) if len(self.kept) > 0 else "none"
        if words[0] == "undo":
            return self.undo()
        if words[1] not in self.kept:
            raise NoName(words[1])
        if words[0] == "drop":
            return self.change(words[1], None)
        text, lore = self.kept[words[1]]
        return text if words[0] == "show" else say(lore, words)

    def change(self, name, pair):
        """Puts a pair of a text and its lore, or None for nothing, under a name, so that it can be taken back."""
        self.past.append((name, self.kept.get(name)))
        return self.put(name, pair)

    def put(self, name, pair):
        """Puts a pair of a text and its lore, or None for nothing, under a name."""
        if pair is None:
            del self.kept[name]
        else:
            self.kept[name] = pair
        return "ok"

    def undo(self):
        """Takes back the last change."""
        if len(self.past) == 0:
            raise NothingDone()
        name, pair = self.past.pop()
        return self.put(name, pair)

    def undoable(self):
        """How many lines can be taken back."""
        return len(self.past)

"""A lore that is led live: lines and wishes come and go, and its book is held."""

from neatbooks.changing import with_line, without
from neatbooks.errors import Full, NothingDone, NoNumber
from neatbooks.holding import Holding, rules_besides
from neatbooks.lores import MOST_LINES, MOST_TOLD, Lore, need_term, told_in
from neatbooks.shapes import is_number_below
from neatbooks.texts import line_text, signs_text, text_of
from neatbooks.working import Work

MOST_WISHES = 12
MOST_WATCHED = 20


def need_number(thing, many):
    """Raises NoNumber for what is not the number of one of so many."""
    if not is_number_below(thing, many):
        raise NoNumber()


def need_room(lines):
    """Raises Full for more lines, or more told terms, than a lore may have."""
    if len(lines) > MOST_LINES or len(told_in(lines)) > MOST_TOLD:
        raise Full()


class Live:
    """Leads a lore live. What was held ahead of each deed is kept beside the deed's row of the journal."""

    def __init__(self, signs):
        self.held = Holding(Lore(signs, ()), ())
        self.eyed = ()
        self.past = []

    def keep(self, row):
        """Keeps what is held, to be taken back to, beside the row of the deed that is done now."""
        self.past.append((row + "\n", self.held, self.eyed))

    def shift(self, row, lore, wished):
        """Holds another lore or other wishes, by a deed with this row: the news."""
        elder = self.held
        held = Holding(lore, wished)
        self.keep(row)
        self.held = held
        return (rules_besides(elder.rules, held.rules), rules_besides(held.rules, elder.rules))

    def tell(self, line):
        """A line more, behind the others: the news."""
        lore = with_line(self.held.told, line)
        need_room(lore.lines)
        return self.shift("tell " + line_text(line), lore, self.held.wished)

    def drop(self, number):
        """The line with this number goes: the news."""
        need_number(number, len(self.held.told.lines))
        return self.shift(f"drop {number}", without(self.held.told, (number,)), self.held.wished)

    def wish(self, term):
        """A wish more, behind the others: the news."""
        need_term(self.held.told, term)
        if len(self.held.wished) == MOST_WISHES:
            raise Full()
        return self.shift("wish " + text_of(term), self.held.told, self.held.wished + (term,))

    def unwish(self, number):
        """The wish with this number goes: the news."""
        wished = self.held.wished
        need_number(number, len(wished))
        return self.shift(f"unwish {number}", self.held.told, wished[:number] + wished[number + 1:])

    def watch(self, term):
        """A watched term more: its answer by the held book."""
        need_term(self.held.told, term)
        if len(self.eyed) == MOST_WATCHED:
            raise Full()
        self.keep("watch " + text_of(term))
        self.eyed = self.eyed + (term,)
        return self.watched()[-1][1]

    def lore(self):
        """The lore of the signs and lines."""
        return self.held.told

    def pick(self):
        """The held pick."""
        return self.held.chosen

    def book(self):
        """The held book."""
        return self.held.rules

    def granted(self):
        """The lot of the numbers of the granted wishes."""
        return self.held.lot

    def watched(self):
        """The list of the pairs of a watched term and its answer by the held book, in order."""
        work = Work(self.held.rules)
        return [(term, work.bank.terms[work.answer_number(term)]) for term in self.eyed]

    def wishes(self):
        """The tuple of the wishes."""
        return self.held.wished

    def back(self):
        """Takes back the last deed that is not taken back."""
        if len(self.past) == 0:
            raise NothingDone()
        _, self.held, self.eyed = self.past.pop()

    def deeds(self):
        """How many deeds can be taken back."""
        return len(self.past)

    def copy(self):
        """Another live lore that goes on apart."""
        other = Live(self.held.told.signs)
        other.held = self.held
        other.eyed = self.eyed
        other.past = list(self.past)
        return other

    def trying(self, action):
        """What a function returns that is called with this live lore; then everything is as it was."""
        held, eyed, past = self.held, self.eyed, list(self.past)
        try:
            return action(self)
        finally:
            self.held, self.eyed, self.past = held, eyed, past

    def journal(self):
        """The signs and the deeds that are not taken back, a row each."""
        return signs_text(self.held.told.signs) + "".join([row for row, _, _ in self.past])

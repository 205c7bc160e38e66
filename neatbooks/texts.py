"""Terms and lores written as texts."""

from neatbooks.lores import need_term
from neatbooks.trees import from_within


def sign_text(sign, parts):
    """The text of a term of a sign and of the texts of its parts."""
    if len(parts) == 0:
        return sign
    return sign + "(" + ",".join(parts) + ")"


def text_of(term):
    """The text of what is a term."""
    return from_within(term, sign_text)


def term_text(lore, term):
    """The text of a term."""
    need_term(lore, term)
    return text_of(term)


def line_text(line):
    """The text of a line."""
    return text_of(line[0]) + " = " + text_of(line[1])


def signs_text(signs):
    """A row for each sign."""
    return "".join([f"sign {sign} {places}\n" for sign, places in signs])


def lore_text(lore):
    """The text of a lore: a row for each sign, then one for each line."""
    return signs_text(lore.signs) + "".join([line_text(line) + "\n" for line in lore.lines])

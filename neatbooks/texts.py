"""Terms and lores written as texts."""

from neatbooks.lores import need_term
from neatbooks.trees import from_within


def sign_text(sign, parts):
    """The text of a term of a sign and of the texts of its parts."""
    if len(parts) == 0:
        return sign
    return sign + "(" + ",".join(parts) + ")"


def text_of(term):
    """The text of what is a term."""
    return from_within(term, sign_text)


def term_text(lore, term):
    """The text of a term."""
    need_term(lore, term)
    return text_of(term)


def lore_text(lore):
    """The text of a lore: a row for each sign, then one for each line."""
    rows = [f"sign {sign} {places}\n" for sign, places in lore.signs]
    for one, other in lore.lines:
        rows.append(text_of(one) + " = " + text_of(other) + "\n")
    return "".join(rows)

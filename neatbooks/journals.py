"""Journals of live lores, read back or saved as far as they are whole."""

from neatbooks.errors import BadDeed, BadLore, BadText, LoreError
from neatbooks.live import Live
from neatbooks.reading import line_of_row, parsed, read_whole, rows_read
from neatbooks.shapes import are_signs, is_number_text


def deed_of_row(places, row):
    """The pair (word, line, term or number) of the deed that a row tells, None for another row."""
    word, _, rest = row.partition(" ")
    thing = None
    if word == "tell":
        thing = line_of_row(places, rest)
    elif word in ("wish", "watch"):
        thing, _ = parsed(places, rest)
    elif word in ("drop", "unwish") and is_number_text(rest):
        thing = int(rest)
    return None if thing is None else (word, thing)


def do_deed(live, word, thing):
    """Does a deed."""
    if word == "tell":
        live.tell(thing)
    elif word == "drop":
        live.drop(thing)
    elif word == "wish":
        live.wish(thing)
    elif word == "unwish":
        live.unwish(thing)
    else:
        live.watch(thing)


def do_deeds(live, deeds):
    """Does deeds as long as none is refused: how many are done."""
    for number, (word, thing) in enumerate(deeds):
        try:
            do_deed(live, word, thing)
        except LoreError:
            return number
    return len(deeds)


def read_journal(text):
    """The live lore that a journal tells."""
    signs, deeds = read_whole(text, deed_of_row)
    live = Live(signs)
    done = do_deeds(live, deeds)
    if done < len(deeds):
        raise BadDeed(len(signs) + done + 1)
    return live


def recovered(text):
    """The live lore that the longest right beginning of a journal tells, with how many rows this has.

    Where the signs make no lore, no beginning with a deed does: then the longest one is sought
    whose signs do.
    """
    if not isinstance(text, str):
        raise BadText(0)
    places, deeds, _ = rows_read(text, deed_of_row)
    signs = tuple(places.items())
    if are_signs(signs):
        live = Live(signs)
        return (live, len(signs) + do_deeds(live, deeds))
    for many in range(len(signs) - 1, 0, -1):
        if are_signs(signs[:many]):
            return (Live(signs[:many]), many)
    raise BadLore("signs")

"""How many choices do not go round, told knot by knot: a knot is of classes that all need one another.

Rows are a dict from the bits of classes to dicts from the masks of what they may need to how
many options need just this.
"""

from neatbooks.making import option_masks

MOST_BRANCHES = 2


def add_unneeded(counts, rows, ahead):
    """Adds what a set of classes brings to the greater sets, the classes that come being needed by none of these."""
    found = [(ahead, -counts[ahead])]
    for bit, masks in rows.items():
        here = sum([many for mask, many in masks.items() if mask & ahead == mask])
        if bit & ahead == 0 and here > 0:
            found = found + [(come | bit, -many * here) for come, many in found]
    for come, many in found[1:]:
        counts[come] += many


def count_by_sets(rows):
    """How many choices do not go round, told set by set of classes.

    Where just the classes of a set are chosen, some of them are needed by none, and the others
    do not go round. As it may be told of more than one set that it is needed by none, the sets
    are added and taken away by turns, by how many classes they have.
    """
    sets = [0]
    for bit in sorted(rows):
        sets = sets + [ahead | bit for ahead in sets]
    counts = {ahead: 0 for ahead in sets}
    counts[0] = 1
    for ahead in sets:
        if counts[ahead] != 0:
            add_unneeded(counts, rows, ahead)
    return counts[sets[-1]]


def reached(rows):
    """For each bit the mask of all classes that it needs, by whichever options, or that these need, and so on."""
    found = {}
    for bit, masks in rows.items():
        found[bit] = 0
        for mask in masks:
            found[bit] = found[bit] | mask
    for bit in rows:
        for other in rows:
            if found[other] & bit > 0:
                found[other] = found[other] | found[bit]
    return found


def knots_of(rows):
    """The list of the masks of the knots, each class being in just one."""
    far = reached(rows)
    found = {}
    for bit in rows:
        knot = bit
        for other in rows:
            if far[bit] & other > 0 and far[other] & bit > 0:
                knot = knot | other
        found[knot] = True
    return list(found)


def row_within(masks, bit, knot):
    """A row of a class with its needs in a knot alone: what needs its own class goes round, and is left out."""
    found = {}
    for mask, many in masks.items():
        if mask & bit == 0:
            found[mask & knot] = found.get(mask & knot, 0) + many
    return found


def with_chosen(rows, chosen, needs):
    """The rows without a class for which it is chosen what it needs: what needs the class needs that."""
    found = {}
    for bit, masks in rows.items():
        if bit != chosen:
            row = {}
            for mask, many in masks.items():
                further = (mask - chosen) | needs if mask & chosen > 0 else mask
                row[further] = row.get(further, 0) + many
            found[bit] = row
    return found


def count_rows(rows):
    """How many choices of rows do not go round: they go round within a knot, if they do."""
    total = 1
    for knot in knots_of(rows):
        total = total * count_knot({bit: row_within(rows[bit], bit, knot) for bit in rows if bit & knot > 0})
    return total


def count_knot(rows):
    """How many choices of the rows of a knot do not go round.

    To choose for a class with few options often cuts the knot in pieces; where there is no such
    class, the sets of classes are fewer.
    """
    if len(rows) == 1:
        return sum([sum(masks.values()) for masks in rows.values()])
    chosen = min(rows, key=lambda bit: len(rows[bit]))
    if len(rows[chosen]) > MOST_BRANCHES:
        return count_by_sets(rows)
    return sum([many * count_rows(with_chosen(rows, chosen, needs)) for needs, many in rows[chosen].items()])


def count_fitting(options):
    """How many choices of an option for each class do not go round."""
    listed = option_masks(options)
    if listed is None:
        return 0
    rows = {}
    for number, masks in enumerate(listed):
        row = {}
        for mask in masks:
            row[mask] = row.get(mask, 0) + 1
        rows[1 << number] = row
    return count_rows(rows)

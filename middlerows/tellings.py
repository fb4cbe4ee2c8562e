"""Wants that are told: the rows that they leave, what they settle, and the fewest that tell a row."""

from itertools import combinations

from middlerows.rowmasks import is_one_row, row_number, want_masks
from middlerows.rules import check_kept, check_rules, mask_of, rows_of
from middlerows.settled import sure, told


def left_by(rules, wants):
    return rows_of(told(rules, wants))


def settles(rules, wants):
    return sure(told(rules, wants))


def open_places(rules, wants):
    settled = settles(rules, wants)
    if settled is None:
        return None
    places = [place for place, _ in settled]
    return tuple([place for place in range(rules.many) if place not in places])


def is_telling(rules, wants):
    return is_one_row(mask_of(told(rules, wants)))


def tellings(rules, row):
    check_kept(rules, row)
    return smallest_tellings(mask_of(rules), want_masks(rules.many), row)


def smallest_tellings(kept, masks, row):
    """The tellings of a row with the fewest wants, ascending, by the lot of rows that are left at first."""
    alone = 1 << row_number(row)
    wants = list(enumerate(row))
    for size in range(len(row)):
        found = [some for some in combinations(wants, size) if lot_with(kept, masks, some) == alone]
        if found:
            return found
    return [tuple(wants)]


def lot_with(kept, masks, wants):
    """The rows of a lot that have some wants."""
    for want in wants:
        kept &= masks[want]
    return kept


def least_telling(rules, row):
    return tellings(rules, row)[0]


def telling_sizes(rules):
    check_rules(rules)
    kept, masks = mask_of(rules), want_masks(rules.many)
    return tuple([len(smallest_tellings(kept, masks, row)[0]) for row in rows_of(rules)])


def hardest_row(rules):
    sizes = telling_sizes(rules)
    if not sizes:
        return None
    return rows_of(rules)[sizes.index(max(sizes))]

"""Lots of rows of some places as integers: the bit with a row's number is set if the row is in the lot.

Rows are numbered from 0 in ascending order, so a row, read as binary digits, is its number.
"""


def all_rows(many):
    """All rows of some places, ascending."""
    return [row_with(many, number) for number in range(1 << many)]


def row_with(many, number):
    return tuple([(number >> (many - 1 - place)) & 1 for place in range(many)])


def row_number(row):
    number = 0
    for value in row:
        number = 2 * number + value
    return number


def rows_in(many, mask):
    """The rows of a lot, ascending."""
    return [row_with(many, number) for number in range(1 << many) if (mask >> number) & 1]


def least_row_in(many, mask):
    """The least row of a lot, None if the lot is empty."""
    if mask == 0:
        return None
    return row_with(many, (mask & -mask).bit_length() - 1)


def is_one_row(mask):
    return mask != 0 and mask & (mask - 1) == 0


def count_of(mask):
    """How many rows a lot has."""
    return f"{mask:b}".count("1")


def lot_mask(rows):
    mask = 0
    for row in rows:
        mask |= 1 << row_number(row)
    return mask


def every_row(many):
    return (1 << (1 << many)) - 1


def want_masks(many):
    """For each want the lot of the rows that have it."""
    masks = {}
    for place in range(many):
        # Rows that have 1 at a place stand side by side in runs of this length, with such runs of 0 between.
        run = 1 << (many - 1 - place)
        ones = 0
        for start in range(run, 1 << many, 2 * run):
            ones |= ((1 << run) - 1) << start
        masks[(place, 0)] = every_row(many) ^ ones
        masks[(place, 1)] = ones
    return masks


def flipped(many, mask, place):
    """The rows of a lot, each with the other value at a place."""
    masks = want_masks(many)
    run = 1 << (many - 1 - place)
    return ((mask & masks[(place, 0)]) << run) | ((mask & masks[(place, 1)]) >> run)


def rule_mask(masks, rule):
    """The lot of the rows that keep a rule, by the lots of wants."""
    first, second = rule
    return masks[first] | masks[second]


def kept_mask(many, rules):
    """The lot of the rows that keep all of some rules."""
    masks = want_masks(many)
    kept = every_row(many)
    for rule in rules:
        kept &= rule_mask(masks, rule)
    return kept

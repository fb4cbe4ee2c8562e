"""Which pairs of wants rows of a lot have, as integers: by these the closed lot of a lot is found.

The bit of a pair is set if one row has both wants of it, perhaps the same one twice. A row is in the closed lot
just if all its pairs are pairs of the lot, so no middle must be taken.
"""

from middlerows.kinds import MOST_PLACES, all_rules, opposite
from middlerows.rowmasks import all_rows


def pair_bit(one, other):
    """The bit of a pair of wants, one not greater than other."""
    places = 2 * MOST_PLACES
    return 1 << (places * (2 * one[0] + one[1]) + 2 * other[0] + other[1])


def row_pairs(row):
    wants = list(enumerate(row))
    bits = 0
    for one in wants:
        for other in wants:
            if one <= other:
                bits |= pair_bit(one, other)
    return bits


def lot_pairs(lot):
    bits = 0
    for row in lot:
        bits |= row_pairs(row)
    return bits


def closed_rows(lot):
    """The rows of the closed lot of a lot, ascending."""
    return rows_within(len(lot[0]), lot_pairs(lot))


def rows_within(many, bits):
    """The rows, ascending, all pairs of which are some of these."""
    return [row for row in all_rows(many) if row_pairs(row) & ~bits == 0]


def rules_kept(many, bits):
    """The rules, ascending, that no row breaks that has just some of these pairs."""
    return [rule for rule in all_rules(many) if bits & breaking_bit(rule) == 0]


def breaking_bit(rule):
    """The bit of the pair of wants that just the rows have that break a rule."""
    first, second = rule
    if first == second:
        return pair_bit(opposite(first), opposite(first))
    return pair_bit(opposite(first), opposite(second))

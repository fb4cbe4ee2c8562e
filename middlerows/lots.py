"""Lots of rows: their pictures, the rules that they tell, the rows that make them, and two lots together."""

from itertools import combinations

from middlerows.checks import check_lot, check_place
from middlerows.errors import TooMany, Unlike
from middlerows.kinds import first_wrong_rule, is_row, pairs_at
from middlerows.lotpairs import closed_rows, lot_pairs, row_pairs, rules_kept, rows_within
from middlerows.middles import first_gap, is_closed, middle_row
from middlerows.rowmasks import kept_mask, lot_mask, row_number
from middlerows.rules import Rules

MOST_FOR_MAKERS = 12


def pictures_of(lot, one, other):
    check_lot(lot)
    check_place(len(lot[0]), one)
    check_place(len(lot[0]), other)
    return pairs_at(lot, one, other)


def by_pictures(lot):
    check_lot(lot)
    return tuple(closed_rows(lot))


def rules_told(lot):
    check_lot(lot)
    many = len(lot[0])
    return Rules(many, tuple(rules_kept(many, lot_pairs(lot))))


def told_by(lot):
    return is_closed(lot)


def lot_paper(lot):
    gap = first_gap(lot)
    if gap is None:
        return ("rules", rules_told(lot).rules)
    return ("gap",) + gap


def shows_lot(lot, value):
    check_lot(lot)
    if not isinstance(value, tuple):
        return False
    if len(value) == 2 and value[0] == "rules":
        return tells_just(lot, value[1])
    if len(value) == 4 and value[0] == "gap":
        return is_gap(lot, value[1:])
    return False


def tells_just(lot, value):
    """Whether a value is an ascending tuple of unlike rules that just the rows of a lot keep."""
    many = len(lot[0])
    if not isinstance(value, tuple) or first_wrong_rule(many, value) is not None:
        return False
    return kept_mask(many, value) == lot_mask(lot)


def is_gap(lot, three):
    """Whether three values are rows of a lot whose middle is not in it."""
    for value in three:
        if not is_row(len(lot[0]), value) or value not in lot:
            return False
    return middle_row(three[0], three[1], three[2]) not in lot


def makers(lot):
    check_lot(lot)
    if len(lot) > MOST_FOR_MAKERS:
        raise TooMany(MOST_FOR_MAKERS)
    rows = list(lot)
    whole = lot_pairs(rows)
    pairs = {row: row_pairs(row) for row in rows}
    for size in range(1, len(rows) + 1):
        for some in combinations(rows, size):
            bits = 0
            for row in some:
                bits |= pairs[row]
            # Lots with the same pairs have the same closed lot.
            if bits == whole:
                return some
    return lot


def closed_numbers(lot):
    return [row_number(row) for row in closed_rows(lot)]


def keeps_least(lot):
    check_lot(lot)
    numbers = closed_numbers(lot)
    inside = set(numbers)
    for one, other in combinations(numbers, 2):
        if one & other not in inside:
            return False
    return True


def keeps_greatest(lot):
    check_lot(lot)
    numbers = closed_numbers(lot)
    inside = set(numbers)
    for one, other in combinations(numbers, 2):
        if one | other not in inside:
            return False
    return True


def check_two_lots(one, other):
    check_lot(one)
    check_lot(other)
    if len(one[0]) != len(other[0]):
        raise Unlike("the rows of the lots have unlike lengths")


def in_common(one, other):
    check_two_lots(one, other)
    return tuple(rows_within(len(one[0]), lot_pairs(one) & lot_pairs(other)))


def put_together(one, other):
    check_two_lots(one, other)
    return tuple(rows_within(len(one[0]), lot_pairs(one) | lot_pairs(other)))

"""Tables: pictures of two places each, with the pairs of values that are let there, and the rows that fit them."""

from itertools import combinations

from middlerows.checks import check_lot, check_row, check_tables
from middlerows.kinds import ALL_PAIRS, pairs_at
from middlerows.rowmasks import all_rows
from middlerows.rules import rules_from


def fits(tables, row):
    return all([(row[one], row[other]) in pairs for one, other, pairs in tables])


def fits_tables(many, tables, row):
    check_tables(many, tables)
    check_row(many, row)
    return fits(tables, row)


def rows_fitting(many, tables):
    check_tables(many, tables)
    return [row for row in all_rows(many) if fits(tables, row)]


def rules_by(many, tables):
    check_tables(many, tables)
    some = []
    for one, other, pairs in tables:
        for first, second in ALL_PAIRS:
            if (first, second) not in pairs:
                some.append(((one, 1 - first), (other, 1 - second)))
    return rules_from(many, some)


def tables_of(lot):
    check_lot(lot)
    return full_tables(len(lot[0]), lot)


def full_tables(many, rows):
    """A picture for each two of some places, of the pairs that rows of them have there, perhaps none."""
    return tuple([(one, other, pairs_at(rows, one, other)) for one, other in combinations(range(many), 2)])


def filled(many, tables):
    check_tables(many, tables)
    let = {(one, other): pairs for one, other, pairs in tables}
    places = list(combinations(range(many), 2))
    return tuple([(one, other, let.get((one, other), ALL_PAIRS)) for one, other in places])

"""Middles of three rows, and lots of rows that are closed under them."""

from itertools import combinations

from middlerows.checks import check_lot
from middlerows.errors import BadRow
from middlerows.kinds import is_row, is_row_of_some_length
from middlerows.lotpairs import closed_rows
from middlerows.rowmasks import row_number, row_with


def middle_number(one, other, third):
    """The middle of three rows, all told by their numbers."""
    return (one & other) | (one & third) | (other & third)


def middle(one, other, third):
    if not is_row_of_some_length(one):
        raise BadRow("the first one is no row")
    if not is_row(len(one), other):
        raise BadRow("the second one is no row, or has another length")
    if not is_row(len(one), third):
        raise BadRow("the third one is no row, or has another length")
    return middle_row(one, other, third)


def middle_row(one, other, third):
    return row_with(len(one), middle_number(row_number(one), row_number(other), row_number(third)))


def is_closed(lot):
    check_lot(lot)
    return len(closed_rows(lot)) == len(lot)


def first_gap(lot):
    if is_closed(lot):
        return None
    size = len(lot[0])
    numbers = [row_number(row) for row in lot]
    inside = set(numbers)
    # The middle of rows two of which are alike is this row, so three unlike ones are enough.
    for one, other, third in combinations(numbers, 3):
        if middle_number(one, other, third) not in inside:
            return (row_with(size, one), row_with(size, other), row_with(size, third))
    return None


def closing(lot):
    check_lot(lot)
    size = len(lot[0])
    whole = len(closed_rows(lot))
    numbers = [row_number(row) for row in lot]
    laps = [lot]
    while len(numbers) < whole:
        lap = new_middles(numbers)
        laps.append(tuple([row_with(size, number) for number in lap]))
        numbers = numbers + lap
    return laps


def new_middles(numbers):
    """The numbers, ascending, of the middles of some rows that are none of these rows."""
    inside = set(numbers)
    found = set()
    for one, other, third in combinations(numbers, 3):
        found.add(middle_number(one, other, third))
    return [number for number in sorted(found) if number not in inside]


def closed(lot):
    check_lot(lot)
    return tuple(closed_rows(lot))

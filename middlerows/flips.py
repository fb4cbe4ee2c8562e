"""Flips of single places: ways from row to row, and the parts into which the rows that keep rules fall."""

from middlerows.checks import check_places
from middlerows.kinds import is_row, unlike_places
from middlerows.rowmasks import row_number
from middlerows.rules import check_kept, check_rules, keeps, rows_of
from middlerows.walks import came_from_table, least_walk


def flip(row, place):
    return row[:place] + (1 - row[place],) + row[place + 1:]


def flip_table(rules, locked):
    """For each row that keeps rules, ascending, those to which flips of places that are not locked lead, ascending."""
    free = [place for place in range(rules.many) if place not in locked]
    rows = {row: True for row in rows_of(rules)}
    table = {}
    for row in rows:
        led = [flip(row, place) for place in free]
        table[row] = sorted([other for other in led if other in rows])
    return table


def check_two_kept(rules, one, other):
    check_kept(rules, one)
    check_kept(rules, other)


def flips_of(rules, row):
    check_kept(rules, row)
    return flip_table(rules, ())[row]


def way_of_rows(rules, one, other):
    check_two_kept(rules, one, other)
    return least_walk(flip_table(rules, ()), one, other)


def count_ways(rules, one, other):
    check_two_kept(rules, one, other)
    table = flip_table(rules, ())
    seen = {one: True}
    counts = {one: 1}
    # Lap by lap: how many shortest ways lead to each row of the last lap.
    while counts and other not in counts:
        later = {}
        for row in counts:
            for step in table[row]:
                if step not in seen:
                    later[step] = later.get(step, 0) + counts[row]
        for row in later:
            seen[row] = True
        counts = later
    return counts.get(other, 0)


def steps_apart(rules, one, other):
    way = way_of_rows(rules, one, other)
    if way is None:
        return None
    return len(way) - 1


def shows_way_of_rows(rules, one, other, value):
    check_two_kept(rules, one, other)
    if not isinstance(value, tuple) or len(value) == 0:
        return False
    for row in value:
        if not is_row(rules.many, row) or not keeps(rules, row):
            return False
    for index in range(1, len(value)):
        if unlike_places(value[index - 1], value[index]) != 1:
            return False
    return value[0] == one and value[-1] == other


def row_parts(rules):
    check_rules(rules)
    table = flip_table(rules, ())
    seen = {}
    parts = []
    for row in table:
        if row not in seen:
            part = sorted(list(came_from_table(table, row)))
            parts.append(tuple(part))
            for other in part:
                seen[other] = True
    return parts


def is_straight(rules):
    check_rules(rules)
    table = flip_table(rules, ())
    numbers = {row: row_number(row) for row in table}
    for one in table:
        # The places of one row, as bits, at which a flip keeps the rules.
        free = sum([numbers[one] ^ numbers[step] for step in table[one]])
        for other in table:
            # If each row can always be led one flip nearer to each other one, no way needs more steps.
            if one != other and free & (numbers[one] ^ numbers[other]) == 0:
                return False
    return True


def locked_way(rules, places, one, other):
    check_rules(rules)
    check_places(rules.many, places)
    check_two_kept(rules, one, other)
    return least_walk(flip_table(rules, places), one, other)

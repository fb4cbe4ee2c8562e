"""Rows with gaps, and places by whose values all rows that keep rules can be told apart."""

from itertools import combinations

from middlerows.checks import check_places
from middlerows.errors import BadGaps
from middlerows.kinds import is_row_with_gaps, wants_in_gaps
from middlerows.rules import check_rules, rows_of
from middlerows.tellings import left_by


def may_be(rules, gaps):
    check_rules(rules)
    if not is_row_with_gaps(rules.many, gaps):
        raise BadGaps("this is no tuple of 0, 1 or None for each place")
    rows = left_by(rules, wants_in_gaps(gaps))
    return tuple([tuple(sorted({row[place] for row in rows})) for place in range(rules.many)])


def tell_apart(rows, places):
    """Whether no two of some rows are alike in all of some places."""
    return len({tuple([row[place] for place in places]) for row in rows}) == len(rows)


def settling_places(rules):
    rows = rows_of(rules)
    places = list(range(rules.many))
    for size in range(rules.many):
        for some in combinations(places, size):
            if tell_apart(rows, some):
                return some
    return tuple(places)


def are_settling(rules, places):
    check_rules(rules)
    check_places(rules.many, places)
    return tell_apart(rows_of(rules), places)

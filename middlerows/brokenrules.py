"""Rules that rows do not keep: the rows that break the fewest, and the fewest rules to leave out."""

from middlerows.checks import check_row
from middlerows.kinds import keeps_rule
from middlerows.rowmasks import all_rows
from middlerows.rules import check_rules


def broken_by(rules, row):
    check_rules(rules)
    check_row(rules.many, row)
    return [rule for rule in rules.rules if not keeps_rule(row, rule)]


def broken_counts(rules):
    """For each row, ascending, the pair of how many rules it does not keep, and the row."""
    check_rules(rules)
    return [(len(broken_by(rules, row)), row) for row in all_rows(rules.many)]


def fewest_broken(rules):
    return min(broken_counts(rules))


def all_fewest(rules):
    counts = broken_counts(rules)
    fewest, _ = min(counts)
    return [row for many, row in counts if many == fewest]


def least_left_out(rules):
    # The rules that are left out are at least all that some row does not keep, so the fewest are just those of a row.
    return min([tuple(broken_by(rules, row)) for row in all_fewest(rules)])

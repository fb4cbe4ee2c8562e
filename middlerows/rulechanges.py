"""Rules with one rule more or less, and the rows that this costs or wins."""

from middlerows.checks import check_rule
from middlerows.errors import NotThere
from middlerows.lean import without
from middlerows.rowmasks import rows_in
from middlerows.rules import Rules, check_rules, rules_from
from middlerows.verdicts import breaking_mask


def with_rule(rules, rule):
    check_rules(rules)
    check_rule(rules.many, rule)
    return rules_from(rules.many, list(rules.rules) + [rule])


def without_rule(rules, rule):
    check_rules(rules)
    check_rule(rules.many, rule)
    if rule not in rules.rules:
        raise NotThere("this rule is not among the rules")
    return Rules(rules.many, without(rules.rules, rule))


def rows_lost(rules, rule):
    check_rules(rules)
    check_rule(rules.many, rule)
    return rows_in(rules.many, breaking_mask(rules, rule))


def rows_won(rules, rule):
    return rows_lost(without_rule(rules, rule), rule)


def row_counts(rules):
    check_rules(rules)
    return tuple([len(rows_won(rules, rule)) for rule in rules.rules])

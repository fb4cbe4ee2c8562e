"""Verdicts: a row that keeps rules, or two walks that show that none does; and what follows from rules."""

from middlerows.checks import check_rule
from middlerows.kinds import all_wants, is_row, keeps_rule, opposite
from middlerows.rowmasks import least_row_in, rule_mask, want_masks
from middlerows.rules import check_rules, keeps, mask_of
from middlerows.walks import is_walk, least_walk, step_table


def verdict(rules):
    check_rules(rules)
    row = least_row_in(rules.many, mask_of(rules))
    if row is not None:
        return ("row", row)
    return walks_there_and_back(rules)


def walks_there_and_back(rules):
    """The ("walks", one, other) of rules that no row keeps."""
    steps = step_table(rules)
    for want in all_wants(rules.many):
        one = least_walk(steps, want, opposite(want))
        other = least_walk(steps, opposite(want), want)
        if one is not None and other is not None:
            return ("walks", one, other)
    return None


def shows_verdict(rules, value):
    check_rules(rules)
    return is_kept_row_paper(rules, value) or is_walks_paper(rules, value)


def is_kept_row_paper(rules, value):
    if not is_paper(value, "row", 2):
        return False
    return is_row(rules.many, value[1]) and keeps(rules, value[1])


def is_walks_paper(rules, value):
    if not is_paper(value, "walks", 3):
        return False
    _, one, other = value
    return are_there_and_back(rules, one, other) and one[-1] == opposite(one[0])


def are_there_and_back(rules, one, other):
    """Whether two values are a walk from a want to a want, and one from this back to it."""
    if not is_walk(rules, one) or not is_walk(rules, other):
        return False
    return other[0] == one[-1] and other[-1] == one[0]


def is_paper(value, word, length):
    return isinstance(value, tuple) and len(value) == length and value[0] == word


def breaking_mask(rules, rule):
    """The lot of the rows that keep rules, but not a rule, as an integer."""
    return mask_of(rules) & ~rule_mask(want_masks(rules.many), rule)


def follows(rules, rule):
    check_rules(rules)
    check_rule(rules.many, rule)
    return breaking_mask(rules, rule) == 0


def follow_paper(rules, rule):
    check_rules(rules)
    check_rule(rules.many, rule)
    row = least_row_in(rules.many, breaking_mask(rules, rule))
    if row is not None:
        return ("row", row)
    found = walk_of_rule(rules, rule)
    if found is not None:
        return ("walk", found)
    return walks_there_and_back(rules)


def walk_of_rule(rules, rule):
    """A walk that shows that a rule follows; None only if none does, and then no row keeps the rules."""
    steps = step_table(rules)
    first, second = rule
    for start, end in ((first, second), (first, first), (second, second)):
        found = least_walk(steps, opposite(start), end)
        if found is not None:
            return found
    return None


def shows_follow(rules, rule, value):
    check_rules(rules)
    check_rule(rules.many, rule)
    if is_kept_row_paper(rules, value):
        return not keeps_rule(value[1], rule)
    return shows_that_follows(rules, rule, value)


def shows_that_follows(rules, rule, value):
    """Whether a value is a walk or walks that show that a rule follows."""
    if is_walks_paper(rules, value):
        return True
    if not is_paper(value, "walk", 2) or not is_walk(rules, value[1]):
        return False
    return opposite(value[1][0]) in rule and value[1][-1] in rule

"""Lean rules: none of them follows from the other ones."""

from middlerows.errors import TooMany
from middlerows.following import may_go, those_that_may_go
from middlerows.rules import Rules, check_rules
from middlerows.verdicts import follows

MOST_LOTS = 2000


def is_lean(rules):
    return len(may_go(rules)) == 0


def leaned(rules):
    check_rules(rules)
    left = rules
    for rule in rules.rules:
        less = Rules(rules.many, without(left.rules, rule))
        if follows(less, rule):
            left = less
    return left


def without(some, rule):
    return tuple([other for other in some if other != rule])


def least_lots(rules):
    check_rules(rules)
    seen = {rules.rules: True}
    waiting = [rules.rules]
    least = []
    while waiting:
        lot = waiting.pop()
        gone = those_that_may_go(rules.many, lot)
        if not gone:
            least.append(lot)
        for rule in gone:
            less = without(lot, rule)
            if less not in seen:
                seen[less] = True
                waiting.append(less)
        if len(seen) > MOST_LOTS:
            raise TooMany(MOST_LOTS)
    return sorted(least)

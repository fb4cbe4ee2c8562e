"""Rules of two places, and the rows that keep them."""

from middlerows.checks import check_many, check_row
from middlerows.errors import BadIndex, BadRules, NoRules, NotKept
from middlerows.kinds import first_wrong_rule, is_integer, keeps_rule
from middlerows.rowmasks import kept_mask, rows_in


class Rules:
    """How many places there are, and an ascending tuple of unlike rules of them."""

    def __init__(self, many, rules):
        check_many(many)
        if not isinstance(rules, tuple):
            raise BadRules(None)
        index = first_wrong_rule(many, rules)
        if index is not None:
            raise BadRules(index)
        self._many = many
        self._rules = rules

    @property
    def many(self):
        return self._many

    @property
    def rules(self):
        return self._rules

    def __eq__(self, other):
        return isinstance(other, Rules) and self._many == other._many and self._rules == other._rules


def check_rules(rules):
    if not isinstance(rules, Rules):
        raise NoRules("these are no Rules")


def rules_from(many, rules):
    """Rules of some rules in any order, perhaps the same one again and again."""
    unlike = {rule: True for rule in rules}
    return Rules(many, tuple(sorted(list(unlike))))


def mask_of(rules):
    """The lot of the rows that keep rules, as an integer."""
    return kept_mask(rules.many, rules.rules)


def keeps(rules, row):
    return first_broken(rules, row) is None


def first_broken(rules, row):
    check_rules(rules)
    check_row(rules.many, row)
    for rule in rules.rules:
        if not keeps_rule(row, rule):
            return rule
    return None


def rows_of(rules):
    check_rules(rules)
    return rows_in(rules.many, mask_of(rules))


def count_rows(rules):
    return len(rows_of(rules))


def row_at(rules, number):
    rows = rows_of(rules)
    if not is_integer(number) or not 0 <= number < len(rows):
        raise BadIndex("no row has this number")
    return rows[number]


def check_kept(rules, row):
    if not keeps(rules, row):
        raise NotKept("this row does not keep the rules")


def place_of(rules, row):
    check_kept(rules, row)
    return rows_of(rules).index(row)

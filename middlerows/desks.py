"""A desk that keeps rules, and whose deeds can be taken back and done again."""

from middlerows.checks import check_row, check_rule
from middlerows.errors import Already
from middlerows.rowmasks import least_row_in
from middlerows.rulechanges import with_rule, without_rule
from middlerows.rules import Rules, check_rules, mask_of
from middlerows.verdicts import follows


class Desk:
    """Keeps rules; its deeds lay rules to them or take them away."""

    def __init__(self, rules):
        check_rules(rules)
        self._own_rules = rules
        # The rules ahead of each deed in effect, and those behind each deed taken back, the last one last.
        self._ahead = []
        self._behind = []

    @property
    def own_rules(self):
        return self._own_rules

    def __len__(self):
        return len(self._ahead)

    def _change_to(self, rules):
        self._ahead.append(self._own_rules)
        self._behind = []
        self._own_rules = rules

    def tell(self, rule):
        check_rule(self._own_rules.many, rule)
        if rule in self._own_rules.rules:
            raise Already("this rule is there already")
        self._change_to(with_rule(self._own_rules, rule))

    def take_back(self, rule):
        self._change_to(without_rule(self._own_rules, rule))

    def settle(self, row):
        check_row(self._own_rules.many, row)
        wants = list(enumerate(row))
        self._change_to(Rules(len(row), tuple([(want, want) for want in wants])))

    def undo(self):
        if not self._ahead:
            return False
        self._behind.append(self._own_rules)
        self._own_rules = self._ahead.pop()
        return True

    def redo(self):
        if not self._behind:
            return False
        self._ahead.append(self._own_rules)
        self._own_rules = self._behind.pop()
        return True

    def copy(self):
        other = Desk(self._own_rules)
        other._ahead = list(self._ahead)
        other._behind = list(self._behind)
        return other

    def row(self):
        return least_row_in(self._own_rules.many, mask_of(self._own_rules))

    def gone(self, rule):
        return follows(without_rule(self._own_rules, rule), rule)

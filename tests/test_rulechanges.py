"""Point 20: one rule more or less, and the rows that it costs or wins."""

import unittest

from middlerows.errors import BadRule, NoRules, NotThere
from middlerows.following import may_go
from middlerows.rulechanges import row_counts, rows_lost, rows_won, with_rule, without_rule
from middlerows.rules import Rules
from tests import slow
from tests.samples import OTHER_KINDS, few_rules, many_rules, nobodys_rules, wide_rules

CHAIN = Rules(3, (((0, 0), (1, 1)), ((1, 0), (2, 1))))
BAD_RULES = OTHER_KINDS + (
    ((0, 0), (0, 1)), ((1, 1), (0, 0)), ((0, 0), (3, 1)), ((0, 0), (1, 2)), [(0, 0), (1, 1)], ([0, 0], (1, 1)),
    ((0, False), (1, 1)), ((0, 0), (True, 1)), ((0, 0),), ((0, 0), (1, 1), (2, 1)), ((-1, 0), (1, 1)), (0, 0),
    ((0, 0), None))


class TestOneRuleMore(unittest.TestCase):
    def test_with_each_rule(self):
        for rules in few_rules() + nobodys_rules():
            for rule in slow.rules_of_places(rules.many):
                answer = with_rule(rules, rule)
                self.assertEqual(answer, Rules(rules.many, tuple(sorted({*rules.rules, rule}))))

    def test_a_rule_that_it_has(self):
        self.assertEqual(with_rule(CHAIN, CHAIN.rules[1]), CHAIN)
        self.assertEqual(with_rule(Rules(8, ()), ((7, 1), (7, 1))).rules, (((7, 1), (7, 1)),))

    def test_rows_lost(self):
        for rules in few_rules() + nobodys_rules():
            rows = slow.kept(rules.many, rules.rules)
            for rule in slow.rules_of_places(rules.many):
                lost = [row for row in rows if not slow.keeps_rule(row, rule)]
                self.assertEqual(rows_lost(rules, rule), lost)
        self.assertEqual(rows_lost(CHAIN, CHAIN.rules[0]), [])


class TestOneRuleLess(unittest.TestCase):
    def test_without_each_rule(self):
        for rules in few_rules() + nobodys_rules():
            for rule in slow.rules_of_places(rules.many):
                if rule in rules.rules:
                    self.assertEqual(
                        without_rule(rules, rule), Rules(rules.many, slow.others(rules.rules, rule)))
                else:
                    for call in (without_rule, rows_won):
                        with self.subTest(call=call, rule=rule), self.assertRaises(NotThere):
                            call(rules, rule)

    def test_rows_won(self):
        for rules in many_rules() + nobodys_rules()[:4] + wide_rules()[2:4]:
            counts = []
            for rule in rules.rules:
                rows = slow.kept(rules.many, slow.others(rules.rules, rule))
                won = [row for row in rows if not slow.keeps_rule(row, rule)]
                self.assertEqual(rows_won(rules, rule), won)
                counts.append(len(won))
            self.assertEqual(row_counts(rules), tuple(counts))

    def test_a_rule_may_go_just_if_it_wins_none(self):
        for rules in many_rules() + wide_rules():
            gone = [rule for rule, count in zip(rules.rules, row_counts(rules)) if count == 0]
            self.assertEqual(gone, may_go(rules))

    def test_no_rules(self):
        self.assertEqual(row_counts(Rules(8, ())), ())
        with self.assertRaises(NotThere):
            without_rule(Rules(1, ()), ((0, 0), (0, 0)))
        self.assertEqual(row_counts(Rules(1, (((0, 0), (0, 0)), ((0, 1), (0, 1))))), (1, 1))

    def test_lists_are_new(self):
        rows_won(CHAIN, CHAIN.rules[0]).clear()
        rows_lost(CHAIN, ((0, 0), (0, 0))).clear()
        self.assertEqual(rows_won(CHAIN, CHAIN.rules[0]), [(1, 0, 0), (1, 0, 1)])
        self.assertEqual(rows_lost(CHAIN, ((0, 0), (0, 0))), [(1, 1, 1)])


class TestWrongInputs(unittest.TestCase):
    def test_bad_rule(self):
        for call in (with_rule, without_rule, rows_lost, rows_won):
            for rule in BAD_RULES:
                with self.subTest(call=call, rule=rule), self.assertRaises(BadRule):
                    call(CHAIN, rule)

    def test_no_rules_comes_first(self):
        for value in OTHER_KINDS:
            for call in (with_rule, without_rule, rows_lost, rows_won):
                with self.subTest(call=call, value=value), self.assertRaises(NoRules):
                    call(value, None)
            with self.subTest(value=value), self.assertRaises(NoRules):
                row_counts(value)

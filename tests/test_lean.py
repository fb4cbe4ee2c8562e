"""Point 18: lean rules, and the lean lots of rules."""

import unittest

from middlerows.errors import NoRules, TooMany
from middlerows.lean import is_lean, leaned, least_lots
from middlerows.rules import Rules
from tests import slow
from tests.samples import OTHER_KINDS, few_rules, many_rules, nobodys_rules, some_rules, wide_rules


def slowly_leaned(many, rules):
    left = tuple(rules)
    for rule in rules:
        if slow.follows(many, slow.others(left, rule), rule):
            left = slow.others(left, rule)
    return left


def slowly_least(many, rules):
    rows = slow.kept(many, rules)
    same = [some for some in slow.subsets(rules) if slow.kept(many, some) == rows]
    return sorted(some for some in same if slow.is_lean(many, some))


def rules_with_2000_lots():
    """Three times two places with 5 lots each, and 4 rules that may all go: 5 * 5 * 5 * 2 ** 4 lots."""
    some = []
    for place in (0, 2, 4):
        want = (place, 1)
        some += [(want, want), (want, (place + 1, 0)), (want, (place + 1, 1))]
    some += [((place, 1), (other, 1)) for place in (0, 2) for other in (6, 7)]
    return Rules(8, tuple(sorted(some)))


class TestLean(unittest.TestCase):
    def test_is_lean_against_all_rows(self):
        for rules in many_rules() + nobodys_rules():
            self.assertIs(is_lean(rules), slow.is_lean(rules.many, rules.rules))

    def test_leaned_against_all_rows(self):
        for rules in many_rules() + nobodys_rules():
            answer = leaned(rules)
            self.assertEqual(answer, Rules(rules.many, slowly_leaned(rules.many, rules.rules)))
            self.assertIs(is_lean(answer), True)

    def test_8_places(self):
        for rules in wide_rules():
            answer = leaned(rules)
            self.assertIs(is_lean(answer), True)
            self.assertEqual(slow.kept(8, answer.rules), slow.kept(8, rules.rules))

    def test_one_by_one_but_not_together(self):
        rules = Rules(2, (((0, 1), (0, 1)), ((0, 1), (1, 0)), ((0, 1), (1, 1))))
        self.assertIs(is_lean(rules), False)
        self.assertEqual(leaned(rules).rules, rules.rules[1:])
        self.assertEqual(least_lots(rules), [rules.rules[:1], rules.rules[1:]])

    def test_no_rules(self):
        self.assertIs(is_lean(Rules(8, ())), True)
        self.assertEqual(leaned(Rules(8, ())), Rules(8, ()))
        self.assertEqual(least_lots(Rules(8, ())), [()])

    def test_no_rules_value(self):
        for value in OTHER_KINDS:
            for call in (is_lean, leaned, least_lots):
                with self.subTest(call=call, value=value), self.assertRaises(NoRules):
                    call(value)


class TestLeastLots(unittest.TestCase):
    def test_against_all_lots_of_rules(self):
        for rules in few_rules() + nobodys_rules()[:3] + some_rules(3, 6, 9, seed=3):
            self.assertEqual(least_lots(rules), slowly_least(rules.many, rules.rules))

    def test_2000_lots_are_not_too_many(self):
        rules = rules_with_2000_lots()
        lots = least_lots(rules)
        choices = [[()]]
        for place in (0, 2, 4):
            want = (place, 1)
            choices.append([((want, want),), ((want, (place + 1, 0)), (want, (place + 1, 1)))])
        expected = [()]
        for choice in choices:
            expected = [tuple(sorted(ahead + more)) for ahead in expected for more in choice]
        self.assertEqual(lots, sorted(expected))

    def test_more_than_2000_lots_are(self):
        # All 11 rules beside the first one may go, in all orders: 2048 lots.
        first = ((0, 1), (0, 1))
        more = [((0, 1), (place, 1)) for place in range(1, 8)]
        second = ((1, 1), (1, 1))
        more_of_it = [((1, 1), (place, 1)) for place in range(2, 7)]
        some = tuple(sorted([first, second] + more[1:] + more_of_it))
        with self.assertRaises(TooMany) as told:
            least_lots(Rules(8, some))
        self.assertEqual(told.exception.most, 2000)
        fewer = tuple(rule for rule in some if rule != ((1, 1), (6, 1)))
        self.assertEqual(least_lots(Rules(8, fewer)), [(first, second)])
        with self.assertRaises(TooMany):
            least_lots(Rules(8, tuple(slow.rules_of_places(8))))

    def test_lists_are_new(self):
        least_lots(Rules(1, ())).clear()
        self.assertEqual(least_lots(Rules(1, ())), [()])

"""Point 43: rules that rows do not keep."""

import unittest

from middlerows.brokenrules import all_fewest, broken_by, fewest_broken, least_left_out
from middlerows.errors import BadRow, NoRules
from middlerows.rules import Rules
from middlerows.verdicts import verdict
from tests import slow
from tests.samples import OTHER_KINDS, all_small_rules, many_rules, nobodys_rules, some_rules, wide_rules

TIGHT = Rules(1, (((0, 0), (0, 0)), ((0, 1), (0, 1))))
EVERY = Rules(3, tuple(slow.rules_of_places(3)))
RULES = many_rules() + nobodys_rules() + wide_rules()
BAD_ROWS = OTHER_KINDS + ((), (0, 0), (0, 0, 0, 0), (0, True, 0), (0, 0, 2), [0, 0, 0], "000", (0, None, 0), (0, 0, -1))


class TestBroken(unittest.TestCase):
    def test_broken_by_against_all_rules(self):
        for rules in RULES:
            for row in slow.rows(rules.many)[:40]:
                self.assertEqual(broken_by(rules, row), slow.broken(row, rules.rules))

    def test_fewest_against_all_rows(self):
        for rules in RULES:
            counts = [(len(slow.broken(row, rules.rules)), row) for row in slow.rows(rules.many)]
            self.assertEqual(fewest_broken(rules), min(counts))
            self.assertEqual(all_fewest(rules), [row for many, row in counts if many == min(counts)[0]])

    def test_none_just_if_the_verdict_is_a_row(self):
        for rules in RULES:
            many, row = fewest_broken(rules)
            self.assertIs(many == 0, verdict(rules)[0] == "row")
            if many == 0:
                self.assertEqual(("row", row), verdict(rules))

    def test_edges(self):
        self.assertEqual((fewest_broken(TIGHT), all_fewest(TIGHT)), ((1, (0,)), [(0,), (1,)]))
        self.assertEqual(broken_by(Rules(2, ()), (1, 0)), [])
        self.assertEqual(fewest_broken(Rules(8, ())), (0, (0,) * 8))
        self.assertEqual(len(all_fewest(Rules(8, ()))), 256)
        # A row breaks a rule of all wants that it lacks: as many rules for each row.
        self.assertEqual(fewest_broken(EVERY), (6, (0, 0, 0)))
        self.assertEqual(all_fewest(EVERY), slow.rows(3))

    def test_lists_are_new(self):
        broken_by(TIGHT, (1,)).clear()
        all_fewest(TIGHT).clear()
        self.assertEqual((broken_by(TIGHT, (1,)), all_fewest(TIGHT)), ([((0, 0), (0, 0))], [(0,), (1,)]))


class TestLeastLeftOut(unittest.TestCase):
    def test_against_all_lots_of_rules(self):
        for rules in all_small_rules()[::2] + some_rules(3, 60, 10, seed=12) + some_rules(4, 30, 12, seed=12):
            self.assertEqual(least_left_out(rules), slow.least_left_out(rules.many, rules.rules))

    def test_edges(self):
        self.assertEqual(least_left_out(Rules(8, ())), ())
        self.assertEqual(least_left_out(TIGHT), (((0, 0), (0, 0)),))
        self.assertEqual(least_left_out(EVERY), slow.least_left_out(3, EVERY.rules))


class TestWrongInputs(unittest.TestCase):
    def test_bad_row(self):
        for row in BAD_ROWS:
            with self.subTest(row=row):
                self.assertRaises(BadRow, broken_by, EVERY, row)
                self.assertRaises(NoRules, broken_by, None, row)

    def test_no_rules_value(self):
        for value in OTHER_KINDS:
            with self.subTest(value=value):
                self.assertRaises(NoRules, broken_by, value, (0,))
                for call in (fewest_broken, all_fewest, least_left_out):
                    self.assertRaises(NoRules, call, value)

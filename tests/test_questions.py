"""Point 23: plans of questions."""

import unittest

from middlerows.errors import BadMost, NoRules, TooMany
from middlerows.questions import fewest_questions, first_question, question_plan, shows_question_plan
from middlerows.rules import Rules, rows_of
from middlerows.tellings import telling_sizes
from tests import slow
from tests.samples import OTHER_KINDS, all_small_rules, changed, few_rules, nobodys_rules, some_rules, wide_rules

CHAIN = Rules(3, (((0, 0), (1, 1)), ((1, 0), (2, 1))))
ONE_ROW = Rules(2, (((0, 1), (0, 1)), ((1, 0), (1, 0))))
# 6 * 6 * 6 * 3 * 3 unlike lots are left of these, and 15 * 15 * 3 * 3 of those.
LOTS_1944 = Rules(8, (((0, 0), (1, 0)), ((2, 1), (7, 1)), ((4, 1), (6, 0))))
LOTS_2025 = Rules(8, (((0, 0), (1, 0)), ((1, 1), (7, 1)), ((2, 1), (7, 1))))
TIGHT = [rules for rules in wide_rules() if len(rules.rules) > 7]
SMALL = all_small_rules()[::3] + some_rules(3, 25, 6, seed=4) + [Rules(3, ()), CHAIN, ONE_ROW]


def unlike_lots(rules):
    lots = {tuple(slow.left(rules.many, rules.rules, told)) for told in slow.told_lots(rules.many)}
    return len(lots - {()})


class TestQuestions(unittest.TestCase):
    def test_against_all_questions(self):
        for rules in few_rules() + some_rules(4, 10, 5, seed=3) + [Rules(4, ()), CHAIN, ONE_ROW]:
            rows = tuple(slow.kept(rules.many, rules.rules))
            if not rows:
                self.assertEqual((fewest_questions(rules), first_question(rules)), (None, None))
                self.assertIsNone(question_plan(rules))
                continue
            depth = slow.least_depth(rules.many, rows)
            self.assertEqual(fewest_questions(rules), depth)
            first = [
                place for place in slow.open_places(rules.many, rows)
                if max(slow.least_depth(rules.many, half) for half in slow.halves_by(rows, place)) < depth]
            self.assertEqual(first_question(rules), min(first, default=None))

    def test_plans_against_all_plans(self):
        for rules in SMALL:
            rows = tuple(slow.kept(rules.many, rules.rules))
            if rows:
                plans = slow.all_plans(rules.many, rows)
                least = min(depth for depth, _ in plans)
                self.assertIn(question_plan(rules), [plan for depth, plan in plans if depth == least])

    def test_shows_just_all_plans(self):
        for rules in SMALL:
            rows = tuple(slow.kept(rules.many, rules.rules))
            plans = slow.all_plans(rules.many, rows) if rows else []
            depths = {repr(plan): depth for depth, plan in plans}
            tried = [plan for _, plan in plans] + [("row", row) for row in slow.rows(rules.many)]
            for plan in tried[:20]:
                for value in [plan, *changed(plan)]:
                    for most in (0, 1, 2, 3, 8):
                        right = repr(value) in depths and depths[repr(value)] <= most
                        self.assertIs(shows_question_plan(rules, most, value), right, (rules.rules, most, value))

    def test_just_its_depth_and_one_more_or_less(self):
        for rules in few_rules() + TIGHT + [Rules(6, ()), LOTS_1944]:
            depth = fewest_questions(rules)
            plan = question_plan(rules)
            if depth is None:
                self.assertIsNone(plan)
                continue
            self.assertIs(shows_question_plan(rules, depth, plan), True)
            self.assertIs(shows_question_plan(rules, 8, plan), True)
            if depth < 8:
                self.assertIs(shows_question_plan(rules, depth + 1, plan), True)
            if depth > 0:
                self.assertIs(shows_question_plan(rules, depth - 1, plan), False)

    def test_each_row_is_led_to_itself(self):
        for rules in few_rules() + TIGHT + [LOTS_1944]:
            for row in rows_of(rules):
                plan = question_plan(rules)
                while plan[0] != "row":
                    plan = plan[1 + row[plan[0]]]
                self.assertEqual(plan, ("row", row))
            if rows_of(rules):
                self.assertGreaterEqual(fewest_questions(rules), max(telling_sizes(rules)))

    def test_one_row_or_none(self):
        self.assertEqual((fewest_questions(ONE_ROW), first_question(ONE_ROW)), (0, None))
        self.assertEqual(question_plan(ONE_ROW), ("row", (1, 0)))
        self.assertIs(shows_question_plan(ONE_ROW, 0, ("row", (1, 0))), True)
        # No place is open any more.
        self.assertIs(shows_question_plan(ONE_ROW, 1, (0, ("row", (0, 0)), ("row", (1, 0)))), False)
        for rules in nobodys_rules():
            self.assertEqual((fewest_questions(rules), question_plan(rules)), (None, None))
            self.assertIsNone(first_question(rules))
            for value in (None, ("row", None), ("row", (0,) * rules.many), (0, None, None), ()):
                self.assertIs(shows_question_plan(rules, 8, value), False)

    def test_2000_lots(self):
        self.assertEqual(unlike_lots(LOTS_1944), 1944)
        self.assertEqual((fewest_questions(LOTS_1944), first_question(LOTS_1944)), (8, 0))
        self.assertEqual(unlike_lots(LOTS_2025), 2025)
        for rules in (LOTS_2025, Rules(7, ()), Rules(8, ())):
            for call in (fewest_questions, question_plan, first_question):
                with self.subTest(call=call), self.assertRaises(TooMany) as told:
                    call(rules)
                self.assertEqual(told.exception.most, 2000)
        plan = ("row", (0,) * 8)
        for place in range(7, -1, -1):
            plan = (place, plan, plan)
        self.assertIs(shows_question_plan(LOTS_2025, 8, plan), False)
        self.assertEqual(fewest_questions(Rules(6, ())), 6)


class TestWrongInputs(unittest.TestCase):
    def test_bad_most(self):
        for most in OTHER_KINDS + ("1", (1,), [1], -5):
            with self.subTest(most=most), self.assertRaises(BadMost):
                shows_question_plan(CHAIN, most, question_plan(CHAIN))
            with self.subTest(most=most), self.assertRaises(NoRules):
                shows_question_plan(None, most, None)

    def test_values_of_other_kinds(self):
        for value in OTHER_KINDS + ("row", ("row",), ("row", (0, 0, 0), 1), (0, 1, 2), (0, (), ()), ((), (), ())):
            self.assertIs(shows_question_plan(CHAIN, 8, value), False)
        deep = None
        for _ in range(5000):
            deep = (0, deep, deep)
        self.assertIs(shows_question_plan(CHAIN, 8, deep), False)

    def test_no_rules_value(self):
        for value in OTHER_KINDS:
            for call in (fewest_questions, question_plan, first_question):
                with self.subTest(call=call, value=value), self.assertRaises(NoRules):
                    call(value)

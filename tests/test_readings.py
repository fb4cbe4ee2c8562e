"""Point 53: what files tell together."""

import random
import unittest

from middlerows.brokenrules import all_fewest, fewest_broken, least_left_out
from middlerows.cheaprows import cheapest
from middlerows.desks import Desk
from middlerows.flips import count_ways, steps_apart
from middlerows.following import all_following
from middlerows.goingon import goes_on
from middlerows.logs import count_runs, rows_behind, start_rows
from middlerows.lots import by_pictures, pictures_of, rules_told
from middlerows.middles import is_closed
from middlerows.nearest import flips_to, nearest
from middlerows.pairs import rows_fitting, rules_by, tables_of
from middlerows.questions import fewest_questions, question_plan
from middlerows.rules import rows_of
from middlerows.tellings import telling_sizes
from middlerows.threes import closed_tables, first_lack
from middlerows.turns import wins
from middlerows.verdicts import verdict
from tests import slow
from tests.samples import all_small_rules, few_rules, nobodys_rules, some_rules

RULES = all_small_rules()[::3] + few_rules() + some_rules(4, 25, 9, seed=13) + nobodys_rules()[:4]


class TestLots(unittest.TestCase):
    def test_the_rows_are_a_closed_lot_and_its_rules_all_follow(self):
        for rules in RULES:
            lot = tuple(rows_of(rules))
            if lot:
                self.assertIs(is_closed(lot), True)
                self.assertEqual(rules_told(lot).rules, all_following(rules))

    def test_its_pictures_let_just_it_and_are_closed(self):
        for rules in RULES:
            lot = tuple(rows_of(rules))
            if not lot:
                continue
            tables = tables_of(lot)
            self.assertEqual(by_pictures(lot), lot)
            self.assertEqual((closed_tables(rules.many, tables), first_lack(rules.many, tables)), (tables, None))
            for one, other, let in tables:
                self.assertEqual(let, pictures_of(lot, one, other))
            # One place has no pictures of two unlike places.
            if rules.many > 1:
                self.assertEqual(tuple(rows_fitting(rules.many, tables)), lot)
                self.assertEqual(tuple(rows_of(rules_by(rules.many, tables))), lot)
                self.assertEqual(goes_on(rules.many, tables, (None,) * rules.many), lot[0])


class TestPlaysAndPlans(unittest.TestCase):
    def test_if_all_places_are_the_first_players(self):
        for rules in RULES:
            turns = tuple((place, "first") for place in range(rules.many))
            self.assertEqual(wins(rules, turns), "first" if rows_of(rules) else "second")

    def test_a_plan_leads_each_row_to_itself(self):
        for rules in RULES:
            for row in rows_of(rules):
                plan = question_plan(rules)
                asked = 0
                while plan[0] != "row":
                    plan = plan[1 + row[plan[0]]]
                    asked += 1
                self.assertEqual(plan, ("row", row))
                self.assertLessEqual(asked, fewest_questions(rules))
            if rows_of(rules):
                self.assertGreaterEqual(fewest_questions(rules), max(telling_sizes(rules)))


class TestPricesAndBrokenRules(unittest.TestCase):
    def test_with_the_price_1_everywhere_the_nearest_to_the_row_of_0s(self):
        for rules in RULES:
            noughts = (0,) * rules.many
            pair = cheapest(rules, (1,) * rules.many)
            due = (flips_to(rules, noughts), nearest(rules, noughts)) if rows_of(rules) else None
            self.assertEqual(pair, due)

    def test_the_fewest_broken_rules_are_none_just_if_the_verdict_is_a_row(self):
        for rules in RULES:
            many, row = fewest_broken(rules)
            self.assertIs(many == 0, verdict(rules)[0] == "row")
            self.assertEqual(many, len(least_left_out(rules)))
            if many == 0:
                self.assertEqual(("row", row), verdict(rules))
                self.assertEqual(all_fewest(rules), slow.kept(rules.many, rules.rules))


class TestLogs(unittest.TestCase):
    def test_rules_told_and_wants_seen_have_the_rows_of_all_these_together(self):
        chance = random.Random(53)
        found = []
        for rules in RULES:
            some = chance.sample(slow.rules_of_places(rules.many), chance.randrange(1, 3))
            seen = chance.sample(slow.wants(rules.many), chance.randrange(3))
            log = [("told", rule) for rule in some] + [("seen", want) for want in seen]
            chance.shuffle(log)
            due = slow.kept(rules.many, list(rules.rules) + some + [(want, want) for want in seen])
            found.append(len(due))
            for answer in (rows_behind, start_rows):
                self.assertEqual(answer(rules, tuple(log)), due)
            self.assertEqual(count_runs(rules, tuple(log)), len(due))
        self.assertGreater(len([many for many in found if many > 1]), 20)

    def test_lost_flips_have_as_many_runs_as_there_are_shortest_ways(self):
        tried = []
        for rules in RULES:
            rows = rows_of(rules)
            for one in rows[::2]:
                for other in rows:
                    steps = steps_apart(rules, one, other)
                    if steps is None or steps > 4:
                        continue
                    log = tuple(("seen", want) for want in enumerate(one)) + (("lost",),) * steps
                    log += tuple(("seen", want) for want in enumerate(other))
                    self.assertEqual(count_runs(rules, log), count_ways(rules, one, other))
                    tried.append(steps)
        for steps in range(5):
            self.assertIn(steps, tried)


class TestDesks(unittest.TestCase):
    def test_rules_that_follow_can_be_told_and_taken_back_and_the_rows_stay(self):
        for rules in RULES[::2]:
            desk = Desk(rules)
            rows = rows_of(rules)
            more = [rule for rule in all_following(rules) if rule not in rules.rules]
            for rule in more:
                desk.tell(rule)
                self.assertEqual((rows_of(desk.own_rules), desk.gone(rule)), (rows, True))
            self.assertEqual(desk.own_rules.rules, all_following(rules))
            for rule in more:
                desk.take_back(rule)
                self.assertEqual(rows_of(desk.own_rules), rows)
            self.assertEqual((desk.own_rules, len(desk)), (rules, 2 * len(more)))

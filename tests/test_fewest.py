"""Point 19: the fewest rules with the same rows."""

import unittest

from middlerows.errors import NoRules
from middlerows.fewest import count_fewest, fewest_parts, fewest_rules, shows_fewest
from middlerows.lean import leaned
from middlerows.rules import Rules
from tests import slow
from tests.samples import OTHER_KINDS, all_small_rules, many_rules, nobodys_rules, wide_rules


class TestFewest(unittest.TestCase):
    def assert_fewest(self, rules, count):
        """Checks of all four functions, by what the least number of rules is."""
        self.assertEqual(count_fewest(rules), count)
        answer = fewest_rules(rules)
        self.assertEqual((answer.many, len(answer.rules)), (rules.many, count))
        self.assertEqual(slow.kept(rules.many, answer.rules), slow.kept(rules.many, rules.rules))
        self.assertIs(shows_fewest(rules, answer), True)
        self.assertIs(shows_fewest(answer, rules), len(rules.rules) == count)

    def test_against_all_rules_of_1_to_3_places(self):
        for many in (1, 2, 3):
            for rows, few in slow.fewest_by_rows(many).items():
                self.assert_fewest(Rules(many, tuple(sorted(few))), len(few))
                self.assert_fewest(Rules(many, slow.all_following(many, few)), len(few))

    def test_against_all_rules_of_4_places(self):
        found = list(slow.fewest_by_rows(4).values())
        self.assertEqual(len(found), 4170)
        for few in found[::6]:
            self.assert_fewest(Rules(4, tuple(sorted(few))), len(few))

    def test_all_small_rules(self):
        counts = {many: slow.fewest_by_rows(many) for many in (1, 2)}
        for rules in all_small_rules():
            rows = tuple(slow.kept(rules.many, rules.rules))
            self.assert_fewest(rules, len(counts[rules.many].get(rows, (None, None))))

    def test_parts_against_the_words(self):
        for rules in many_rules():
            self.assertEqual(fewest_parts(rules), slow.fewest_parts(rules.many, rules.rules))

    def test_parts_add_up(self):
        for rules in many_rules() + wide_rules():
            numbers = fewest_parts(rules)
            self.assertEqual(count_fewest(rules), 2 if numbers is None else sum(numbers))
            self.assertLessEqual(count_fewest(rules), len(leaned(rules).rules))

    def test_8_places(self):
        for rules in wide_rules():
            answer = fewest_rules(rules)
            self.assertEqual(len(answer.rules), count_fewest(rules))
            self.assertEqual(slow.kept(8, answer.rules), slow.kept(8, rules.rules))
        # All places alike: a ring of 8 wants, and one of their opposites.
        alike = [((one, value), (other, 1 - value)) for one in range(8) for other in range(one) for value in (0, 1)]
        ring = Rules(8, tuple(sorted(tuple(sorted(rule)) for rule in alike)))
        self.assertEqual((fewest_parts(ring), count_fewest(ring)), ((0, 8, 0), 8))
        self.assertEqual(slow.kept(8, fewest_rules(ring).rules), [(0,) * 8, (1,) * 8])
        climbing = Rules(8, tuple(((place, 0), (place + 1, 1)) for place in range(7)))
        self.assertEqual(fewest_parts(climbing), (0, 0, 7))

    def test_no_rules_and_no_rows(self):
        self.assertEqual((count_fewest(Rules(8, ())), fewest_parts(Rules(8, ()))), (0, (0, 0, 0)))
        self.assertEqual(fewest_rules(Rules(8, ())), Rules(8, ()))
        for rules in nobodys_rules():
            self.assertEqual((count_fewest(rules), fewest_parts(rules)), (2, None))
            self.assertEqual(slow.kept(rules.many, fewest_rules(rules).rules), [])
            self.assertEqual(len(fewest_rules(rules).rules), 2)

    def test_shows_against_all_rules(self):
        for rules in all_small_rules():
            if rules.many == 2 and len(rules.rules) < 4:
                count = count_fewest(rules)
                for value in all_small_rules():
                    same = value.many == 2 and slow.kept(2, value.rules) == slow.kept(2, rules.rules)
                    self.assertIs(shows_fewest(rules, value), same and len(value.rules) == count)

    def test_shows_no_other_values(self):
        ring = Rules(3, (((0, 0), (1, 1)), ((0, 1), (2, 0)), ((1, 0), (2, 1))))
        self.assertIs(shows_fewest(ring, ring), True)
        for value in OTHER_KINDS + (
                ring.rules, (3, ring.rules), list(ring.rules), Rules(3, ring.rules[:2]), Rules(4, ring.rules),
                Rules(3, (((0, 0), (0, 0)),) + ring.rules), Rules(1, ()), Rules(3, ()),
                Rules(3, (((0, 0), (1, 1)), ((0, 1), (2, 0)), ((1, 0), (2, 0))))):
            with self.subTest(value=value):
                self.assertIs(shows_fewest(ring, value), False)

    def test_no_rules_value(self):
        for value in OTHER_KINDS:
            with self.subTest(value=value):
                for call in (count_fewest, fewest_parts, fewest_rules):
                    with self.assertRaises(NoRules):
                        call(value)
                with self.assertRaises(NoRules):
                    shows_fewest(value, Rules(1, ()))

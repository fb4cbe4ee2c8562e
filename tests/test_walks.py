"""Points 4 and 5: steps, walks and rings of wants."""

import unittest

from middlerows.errors import BadWant, NoRules
from middlerows.rules import Rules
from middlerows.walks import leads, shows_walk, steps_from, walk, want_rings
from tests import slow
from tests.samples import OTHER_KINDS, few_rules, many_rules, some_rules, wide_rules

CHAIN = Rules(3, (((0, 0), (1, 1)), ((1, 0), (2, 1))))
BAD_WANTS = OTHER_KINDS + (
    (), (0,), (0, 0, 0), (3, 0), (-1, 0), (0, 2), (0, -1), (0, True), (False, 0), (True, 1), (0, None), [0, 0],
    "00", ("0", 0), ((0, 0),), (0, [0]), 0)


class TestSteps(unittest.TestCase):
    def test_against_all_rules(self):
        for rules in many_rules() + wide_rules():
            pairs = slow.steps(rules.rules)
            for want in slow.wants(rules.many):
                steps = tuple(other for other in slow.wants(rules.many) if (want, other) in pairs)
                self.assertEqual(steps_from(rules, want), steps)

    def test_a_rule_of_the_same_want_twice(self):
        rules = Rules(1, (((0, 1), (0, 1)),))
        self.assertEqual(steps_from(rules, (0, 0)), ((0, 1),))
        self.assertEqual(steps_from(rules, (0, 1)), ())

    def test_leads_against_all_walks(self):
        for rules in many_rules() + wide_rules():
            pairs = slow.reaches(rules.many, rules.rules)
            for want in slow.wants(rules.many):
                led = tuple(other for other in slow.wants(rules.many) if (want, other) in pairs)
                self.assertEqual(leads(rules, want), led)

    def test_no_rules(self):
        self.assertEqual(steps_from(Rules(8, ()), (7, 1)), ())
        self.assertEqual(leads(Rules(8, ()), (7, 1)), ((7, 1),))

    def test_bad_want(self):
        for want in BAD_WANTS:
            for call in (steps_from, leads):
                with self.subTest(call=call, want=want), self.assertRaises(BadWant):
                    call(CHAIN, want)

    def test_no_rules_comes_first(self):
        for value in OTHER_KINDS:
            for call in (steps_from, leads):
                for want in ((0, 0), None):
                    with self.subTest(call=call, value=value), self.assertRaises(NoRules):
                        call(value, want)


class TestWalk(unittest.TestCase):
    def test_against_all_walks(self):
        for rules in few_rules():
            many = rules.many
            least = {}
            # A shortest walk has each want once at most.
            for length in range(1, 2 * many + 1):
                if length > 1 and len(slow.steps(rules.rules)) > 14 and length > 4:
                    break
                for found in slow.walks_of_length(many, rules.rules, length):
                    ends = (found[0], found[-1])
                    if ends not in least or len(least[ends]) == length:
                        least[ends] = min(least.get(ends, found), found)
            reached = slow.reaches(many, rules.rules)
            for one in slow.wants(many):
                for other in slow.wants(many):
                    found = walk(rules, one, other)
                    if (one, other) in least:
                        self.assertEqual(found, least[one, other])
                    elif (one, other) not in reached:
                        self.assertIsNone(found)

    def test_least_of_the_shortest(self):
        rules = Rules(4, (((0, 0), (1, 1)), ((0, 0), (2, 1)), ((1, 0), (3, 1)), ((2, 0), (3, 1))))
        self.assertEqual(walk(rules, (0, 1), (3, 1)), ((0, 1), (1, 1), (3, 1)))
        self.assertEqual(walk(rules, (3, 0), (0, 0)), ((3, 0), (1, 0), (0, 0)))

    def test_from_a_want_to_itself(self):
        ring = Rules(2, (((0, 0), (1, 1)), ((0, 1), (1, 0))))
        for want in slow.wants(2):
            self.assertEqual(walk(ring, want, want), (want,))
            self.assertTrue(shows_walk(ring, want, want, (want,)))
        self.assertTrue(shows_walk(ring, (0, 1), (0, 1), ((0, 1), (1, 1), (0, 1))))
        self.assertFalse(shows_walk(ring, (0, 1), (0, 1), ((0, 1), (0, 1))))

    def test_shows_what_walk_answers(self):
        for rules in few_rules() + wide_rules():
            for one in slow.wants(rules.many):
                for other in slow.wants(rules.many)[::3]:
                    found = walk(rules, one, other)
                    self.assertIs(shows_walk(rules, one, other, found), found is not None)

    def test_shows_against_all_tuples(self):
        for rules in some_rules(2, 12, 5):
            for length in (1, 2, 3):
                walks = set(slow.walks_of_length(2, rules.rules, length))
                for value in slow.product(slow.wants(2), repeat=length):
                    self.assertIs(shows_walk(rules, value[0], value[-1], value), value in walks)
                    self.assertFalse(shows_walk(rules, slow.opposite(value[0]), value[-1], value))
                    self.assertFalse(shows_walk(rules, value[0], slow.opposite(value[-1]), value))

    def test_other_values_are_no_walks(self):
        values = OTHER_KINDS + (
            (), [(0, 1), (1, 1)], ((0, 1), [1, 1]), ((False, 1), (1, 1)), ((0, True), (1, 1)), ((0, 1), (True, 1)),
            ((0, 1), (1, 1), None), ((0, 1), (1, 1, 1)), ((0, 1), (9, 1), (1, 1)), ((0, 1), (2, 1), (1, 1)),
            ("walk", ((0, 1), (1, 1))), (0, 1), Rules(1, ()))
        for value in values:
            with self.subTest(value=value):
                self.assertIs(shows_walk(CHAIN, (0, 1), (1, 1), value), False)
        self.assertIs(shows_walk(CHAIN, (0, 1), (1, 1), ((0, 1), (1, 1))), True)

    def test_bad_wants_in_order(self):
        for want in BAD_WANTS:
            for one, other in ((want, (0, 0)), ((0, 0), want), (want, want)):
                with self.subTest(one=one, other=other):
                    with self.assertRaises(BadWant):
                        walk(CHAIN, one, other)
                    with self.assertRaises(BadWant):
                        shows_walk(CHAIN, one, other, None)

    def test_no_rules_comes_first(self):
        for value in OTHER_KINDS:
            with self.subTest(value=value):
                with self.assertRaises(NoRules):
                    walk(value, None, None)
                with self.assertRaises(NoRules):
                    shows_walk(value, (0, 0), None, ())


class TestRings(unittest.TestCase):
    def test_against_all_walks(self):
        for rules in many_rules() + wide_rules():
            self.assertEqual(want_rings(rules), slow.rings(rules.many, rules.rules))

    def test_no_rules(self):
        self.assertEqual(want_rings(Rules(1, ())), [((0, 0),), ((0, 1),)])
        self.assertEqual(len(want_rings(Rules(8, ()))), 16)

    def test_lists_are_new(self):
        want_rings(CHAIN).clear()
        self.assertEqual(len(want_rings(CHAIN)), 6)

    def test_no_rules_value(self):
        for value in OTHER_KINDS:
            with self.subTest(value=value), self.assertRaises(NoRules):
                want_rings(value)

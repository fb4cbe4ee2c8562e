"""Points 6 and 7: verdicts, what follows, and the papers that show it."""

import unittest

from middlerows.errors import BadRule, NoRules
from middlerows.rules import Rules
from middlerows.verdicts import follow_paper, follows, shows_follow, shows_verdict, verdict
from tests import slow
from tests.samples import OTHER_KINDS, few_rules, many_rules, nobodys_rules, some_rules, wide_rules

CHAIN = Rules(3, (((0, 0), (1, 1)), ((1, 0), (2, 1))))
NONE = Rules(2, (((0, 0), (0, 0)), ((0, 1), (1, 0)), ((0, 1), (1, 1))))
TO_OPPOSITE = ((0, 1), (0, 0))
AND_BACK = ((0, 0), (1, 0), (0, 1))
BAD_RULES = OTHER_KINDS + (
    (), ((0, 0),), ((0, 0), (0, 1)), ((1, 0), (0, 0)), ((0, 1), (0, 0)), ((0, 0), (3, 0)), ((0, 0), (1, 2)),
    ((0, 0), (1, True)), ((False, 0), (1, 0)), [(0, 0), (1, 0)], ([0, 0], (1, 0)), ((0, 0), (1, 0), (2, 0)), (0, 0))


def is_slow_walk(rules, value, one, other):
    return slow.is_walk(rules.many, rules.rules, value, one, other)


def are_slow_walks(rules, paper):
    word, one, other = paper
    want = one[0]
    there = is_slow_walk(rules, one, want, slow.opposite(want))
    return word == "walks" and there and is_slow_walk(rules, other, slow.opposite(want), want)


class TestVerdict(unittest.TestCase):
    def test_against_all_rows(self):
        for rules in many_rules() + wide_rules() + nobodys_rules():
            rows = slow.kept(rules.many, rules.rules)
            found = verdict(rules)
            if rows:
                self.assertEqual(found, ("row", rows[0]))
            else:
                self.assertTrue(are_slow_walks(rules, found))
            self.assertIs(shows_verdict(rules, found), True)

    def test_shows_just_rows_that_keep_them(self):
        for rules in many_rules():
            rows = slow.kept(rules.many, rules.rules)
            for row in slow.rows(rules.many):
                self.assertIs(shows_verdict(rules, ("row", row)), row in rows)

    def test_shows_just_two_walks(self):
        for rules in nobodys_rules()[:3] + some_rules(2, 20, 6):
            walks = []
            for length in range(1, 5):
                walks += slow.walks_of_length(rules.many, rules.rules, length)
            for one in walks:
                for other in walks[::5]:
                    value = ("walks", one, other)
                    self.assertIs(shows_verdict(rules, value), are_slow_walks(rules, value))

    def test_papers_changed_in_one_thing(self):
        self.assertTrue(shows_verdict(NONE, ("walks", TO_OPPOSITE, AND_BACK)))
        self.assertTrue(shows_verdict(NONE, ("walks", AND_BACK, TO_OPPOSITE)))
        # A longer walk is a walk, too.
        self.assertTrue(shows_verdict(NONE, ("walks", TO_OPPOSITE + ((1, 0), (0, 1), (0, 0)), AND_BACK)))
        for value in (
                ("row", (0, 0)), ("walk", TO_OPPOSITE, AND_BACK), ("walks", TO_OPPOSITE), ("walks", AND_BACK, AND_BACK),
                ("walks", TO_OPPOSITE, TO_OPPOSITE), ("walks", list(TO_OPPOSITE), AND_BACK), ("walks", (), ()),
                ("walks", TO_OPPOSITE, AND_BACK, None), ["walks", TO_OPPOSITE, AND_BACK], ("walks", AND_BACK, ()),
                ("walks", ((0, True), (0, 0)), AND_BACK), ("walks", TO_OPPOSITE, ((0, 0), (1, 1), (1, 0), (0, 1))),
                ("walks", TO_OPPOSITE, ((False, 0), (1, 0), (0, 1))), ("walks", ((0, 1),), ((0, 1),)),
                ("walks", TO_OPPOSITE[:1], AND_BACK), (None, TO_OPPOSITE, AND_BACK), ("walks", None, None)):
            with self.subTest(value=value):
                self.assertIs(shows_verdict(NONE, value), False)
        for value in (
                ("row", (0, 0)), ("row", [0, 0, 0]), ("row", (0, 0, False)), ("row", (0, 0, True)), ("row", (1, 0, 0)),
                ("row",), ("row", (0, 0, 0), None), ["row", (0, 0, 0)], (0, 0, 0), ("rows", (0, 0, 0)), ("row", None),
                ("row", (0, 0, 2)), ("walk", (0, 0, 0)), (["row"], (0, 0, 0)), (Rules(1, ()), (0, 0, 0))):
            with self.subTest(value=value):
                self.assertIs(shows_verdict(CHAIN, value), False)
        self.assertIs(shows_verdict(CHAIN, ("row", (1, 1, 1))), True)

    def test_other_kinds(self):
        for value in OTHER_KINDS + ((), Rules(1, ()), CHAIN):
            with self.subTest(value=value):
                self.assertIs(shows_verdict(CHAIN, value), False)
                self.assertIs(shows_verdict(NONE, value), False)
                self.assertIs(shows_follow(CHAIN, ((0, 0), (2, 1)), value), False)
                self.assertIs(shows_follow(CHAIN, ((0, 1), (2, 1)), value), False)

    def test_no_rules_value(self):
        for value in OTHER_KINDS:
            with self.subTest(value=value):
                with self.assertRaises(NoRules):
                    verdict(value)
                with self.assertRaises(NoRules):
                    shows_verdict(value, ("row", (0, 0)))


class TestFollows(unittest.TestCase):
    def test_against_all_rows(self):
        for rules in many_rules():
            for rule in slow.rules_of_places(rules.many):
                self.assertIs(follows(rules, rule), slow.follows(rules.many, rules.rules, rule))

    def test_8_places(self):
        for rules in wide_rules()[:4]:
            for rule in slow.rules_of_places(8)[::9]:
                self.assertIs(follows(rules, rule), slow.follows(8, rules.rules, rule))

    def test_all_follows_where_no_row_keeps_them(self):
        for rules in nobodys_rules():
            for rule in slow.rules_of_places(rules.many)[::5]:
                self.assertTrue(follows(rules, rule))
                self.assertIn(follow_paper(rules, rule)[0], ("walk", "walks"))

    def test_papers_against_all_rows(self):
        for rules in few_rules() + nobodys_rules() + wide_rules()[2:4]:
            rows = slow.kept(rules.many, rules.rules)
            for rule in slow.rules_of_places(rules.many)[::1 if rules.many < 4 else 7]:
                against = [row for row in rows if not slow.keeps_rule(row, rule)]
                paper = follow_paper(rules, rule)
                if against:
                    self.assertEqual(paper, ("row", against[0]))
                elif paper[0] == "walk":
                    self.assertEqual(len(paper), 2)
                    self.assertIn(slow.opposite(paper[1][0]), rule)
                    self.assertIn(paper[1][-1], rule)
                    self.assertTrue(is_slow_walk(rules, paper[1], paper[1][0], paper[1][-1]))
                else:
                    self.assertTrue(are_slow_walks(rules, paper))
                self.assertIs(shows_follow(rules, rule, paper), True)

    def test_shows_just_rows_against_it(self):
        for rules in few_rules():
            rows = slow.kept(rules.many, rules.rules)
            for rule in slow.rules_of_places(rules.many)[::4]:
                for row in slow.rows(rules.many):
                    against = row in rows and not slow.keeps_rule(row, rule)
                    self.assertIs(shows_follow(rules, rule, ("row", row)), against)

    def test_shows_just_walks_of_the_rule(self):
        for rules in some_rules(2, 10, 5) + [NONE]:
            for length in (1, 2, 3):
                for walk in slow.walks_of_length(2, rules.rules, length):
                    for rule in slow.rules_of_places(2):
                        right = slow.opposite(walk[0]) in rule and walk[-1] in rule
                        self.assertIs(shows_follow(rules, rule, ("walk", walk)), right)

    def test_papers_changed_in_one_thing(self):
        rule = ((0, 0), (2, 1))
        good = ((0, 1), (1, 1), (2, 1))
        self.assertTrue(shows_follow(CHAIN, rule, ("walk", good)))
        for value in (
                ("walks", good), ("walk", good, None), ["walk", good], ("walk", list(good)), ("walk", good[:2]),
                ("walk", good[1:]), ("walk", ()), ("walk",), good, ("row", good), ("walk", ((0, 1), (2, 1))),
                ("walk", ((0, True), (1, 1), (2, 1))), ("walk", ((0, 1), (True, 1), (2, 1))), ("walk", good[::-1]),
                ("row", (0, 0, 0)), ("row", (1, 0, 0)), ("walks", good, good), ("walk", None)):
            with self.subTest(value=value):
                self.assertIs(shows_follow(CHAIN, rule, value), False)
        self.assertIs(shows_follow(CHAIN, ((0, 1), (2, 1)), ("row", (0, 0, False))), False)
        self.assertIs(shows_follow(NONE, ((1, 0), (1, 0)), ("walks", TO_OPPOSITE, AND_BACK)), True)
        self.assertIs(shows_follow(NONE, ((1, 0), (1, 0)), ("walks", TO_OPPOSITE, TO_OPPOSITE)), False)

    def test_a_rule_of_the_same_want_twice(self):
        tight = Rules(2, (((0, 0), (1, 1)), ((0, 1), (1, 1))))
        self.assertTrue(follows(tight, ((1, 1), (1, 1))))
        self.assertEqual(follow_paper(tight, ((1, 1), (1, 1)))[1][::2], ((1, 0), (1, 1)))
        # It follows by one of its wants alone.
        self.assertEqual(follow_paper(tight, ((0, 0), (1, 1)))[0], "walk")
        self.assertTrue(shows_follow(tight, ((0, 0), (1, 1)), ("walk", ((1, 0), (0, 0), (1, 1)))))

    def test_bad_rule(self):
        for rule in BAD_RULES:
            with self.subTest(rule=rule):
                with self.assertRaises(BadRule):
                    follows(CHAIN, rule)
                with self.assertRaises(BadRule):
                    follow_paper(CHAIN, rule)
                with self.assertRaises(BadRule):
                    shows_follow(CHAIN, rule, ("row", (0, 0, 0)))

    def test_no_rules_comes_first(self):
        for value in OTHER_KINDS:
            with self.subTest(value=value):
                with self.assertRaises(NoRules):
                    follows(value, None)
                with self.assertRaises(NoRules):
                    follow_paper(value, None)
                with self.assertRaises(NoRules):
                    shows_follow(value, None, None)

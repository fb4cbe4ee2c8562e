"""Points 16 and 17: all that follows, rules that may go, the same rows, and papers of both."""

import unittest
from itertools import product

from middlerows.errors import NoRules, Unlike
from middlerows.following import all_following, may_go, parting_row, plain, same_paper, same_rows, shows_same
from middlerows.rules import Rules, rows_of
from middlerows.settled import sure
from middlerows.verdicts import shows_follow
from tests import slow
from tests.samples import OTHER_KINDS, all_small_rules, few_rules, many_rules, nobodys_rules, some_rules, wide_rules

CHAIN = Rules(3, (((0, 0), (1, 1)), ((0, 0), (2, 1)), ((1, 0), (2, 1))))
SHORT = Rules(3, (((0, 0), (1, 1)), ((1, 0), (2, 1))))
PAIRS = [
    (one, other) for some in (all_small_rules()[::9], some_rules(3, 12, 6), some_rules(4, 6, 8))
    for one, other in product(some, some) if one.many == other.many]


class TestFollowing(unittest.TestCase):
    def test_against_all_rows(self):
        for rules in many_rules():
            self.assertEqual(all_following(rules), slow.all_following(rules.many, rules.rules))

    def test_edges(self):
        self.assertEqual(all_following(Rules(1, ())), ())
        self.assertEqual(all_following(Rules(8, ())), ())
        for rules in nobodys_rules():
            self.assertEqual(all_following(rules), tuple(slow.rules_of_places(rules.many)))

    def test_may_go_against_all_rows(self):
        for rules in many_rules() + nobodys_rules() + some_rules(8, 2, 9):
            some = [
                rule for rule in rules.rules
                if slow.follows(rules.many, slow.others(rules.rules, rule), rule)]
            self.assertEqual(may_go(rules), some)

    def test_one_by_one_but_not_together(self):
        # The first one follows from both others, and each of these from the first one.
        ring = Rules(2, (((0, 1), (0, 1)), ((0, 1), (1, 0)), ((0, 1), (1, 1))))
        self.assertEqual(may_go(ring), list(ring.rules))
        self.assertEqual(may_go(Rules(2, ring.rules[:1])), [])
        self.assertEqual(may_go(Rules(2, ring.rules[1:])), [])
        self.assertEqual(may_go(Rules(5, ())), [])

    def test_lists_are_new(self):
        may_go(CHAIN).clear()
        self.assertEqual(may_go(CHAIN), [((0, 0), (2, 1))])

    def test_no_rules_value(self):
        for value in OTHER_KINDS:
            for call in (all_following, may_go, plain):
                with self.subTest(call=call, value=value), self.assertRaises(NoRules):
                    call(value)


class TestSameRows(unittest.TestCase):
    def test_against_all_rows(self):
        for one, other in PAIRS:
            rows = set(slow.kept(one.many, one.rules)) ^ set(slow.kept(other.many, other.rules))
            self.assertIs(same_rows(one, other), not rows)
            self.assertEqual(parting_row(one, other), min(rows, default=None))

    def test_errors_in_order(self):
        for call, more in ((same_rows, ()), (parting_row, ()), (same_paper, ()), (shows_same, (None,))):
            for value in OTHER_KINDS:
                for one, other in ((value, CHAIN), (CHAIN, value), (value, value), (Rules(1, ()), value)):
                    with self.subTest(call=call, one=one, other=other), self.assertRaises(NoRules):
                        call(one, other, *more)
            with self.assertRaises(Unlike):
                call(CHAIN, Rules(2, ()), *more)
            with self.assertRaises(Unlike):
                call(nobodys_rules()[0], nobodys_rules()[1], *more)


class TestPlain(unittest.TestCase):
    def test_against_the_words(self):
        for rules in many_rules():
            answer = plain(rules)
            self.assertEqual(rows_of(answer), rows_of(rules))
            self.assertEqual(answer.many, rules.many)
            settled = sure(rules)
            if settled is None:
                self.assertEqual(answer.rules, (((0, 0), (0, 0)), ((0, 1), (0, 1))))
                continue
            places = [place for place, _ in settled]
            expected = [(want, want) for want in settled] + [
                rule for rule in slow.all_following(rules.many, rules.rules)
                if rule[0][0] not in places and rule[1][0] not in places]
            self.assertEqual(answer.rules, tuple(sorted(expected)))

    def test_same_rows_just_if_the_same_plain_ones(self):
        for one, other in PAIRS:
            self.assertIs(same_rows(one, other), plain(one) == plain(other))

    def test_8_places(self):
        for rules in wide_rules():
            self.assertEqual(rows_of(plain(rules)), rows_of(rules))
        self.assertEqual(plain(Rules(8, ())), Rules(8, ()))


class TestSamePaper(unittest.TestCase):
    def test_papers(self):
        for one, other in PAIRS + [(plain(rules), rules) for rules in few_rules() + nobodys_rules()]:
            paper = same_paper(one, other)
            row = parting_row(one, other)
            if row is not None:
                self.assertEqual(paper, ("row", row))
            else:
                word, for_other, for_one = paper
                self.assertEqual((word, len(for_other), len(for_one)), ("papers", len(other.rules), len(one.rules)))
                for rules, some, papers in ((one, other.rules, for_other), (other, one.rules, for_one)):
                    for rule, shown in zip(some, papers):
                        self.assertNotEqual(shown[0], "row")
                        self.assertTrue(shows_follow(rules, rule, shown))
            self.assertIs(shows_same(one, other, paper), True)

    def test_rows_against_all_rows(self):
        for one, other in PAIRS[::3]:
            rows = set(slow.kept(one.many, one.rules)) ^ set(slow.kept(other.many, other.rules))
            for row in slow.rows(one.many):
                self.assertIs(shows_same(one, other, ("row", row)), row in rows)

    def test_papers_changed_in_one_thing(self):
        word, for_other, for_one = same_paper(CHAIN, SHORT)
        self.assertIs(shows_same(CHAIN, SHORT, (word, for_other, for_one)), True)
        for value in OTHER_KINDS + (
                (), (word,), (word, for_other), (word, for_other, for_one, ()), [word, for_other, for_one],
                ("paper", for_other, for_one), (word, for_one, for_other), (word, for_other[:1], for_one),
                (word, for_other, for_one[:2]), (word, for_other + for_other[:1], for_one), (word, (), ()),
                (word, list(for_other), for_one), (word, for_other[::-1], for_one), (word, for_other, None),
                (word, for_other, for_one[::-1]), (word, (None, None), for_one), (word, for_other, (None,) * 3),
                (word, (("row", (0, 0, 0)),) + for_other[1:], for_one), ("row", (0, 0, 0)), ("row", (1, 0, 0)),
                ("row", for_other, for_one), ("papers", (0, 0, 0)), CHAIN):
            with self.subTest(value=value):
                self.assertIs(shows_same(CHAIN, SHORT, value), False)

    def test_a_row_does_not_show_that_a_rule_follows(self):
        one, other = Rules(1, ()), Rules(1, (((0, 0), (0, 0)),))
        self.assertTrue(shows_follow(one, ((0, 0), (0, 0)), ("row", (1,))))
        self.assertIs(shows_same(one, other, ("papers", (("row", (1,)),), ())), False)
        for value, right in (
                (("row", (1,)), True), (("row", (0,)), False), (("row", (True,)), False), (("row", [1]), False),
                (("row", (1, 0)), False), (("row", (1,), None), False), (["row", (1,)], False), (("row", None), False)):
            with self.subTest(value=value):
                self.assertIs(shows_same(one, other, value), right)

    def test_other_papers_show_it_too(self):
        tight = Rules(2, (((0, 0), (1, 1)), ((0, 1), (1, 1))))
        by_walk = ("walk", ((1, 0), (0, 0), (1, 1)))
        by_other_walk = ("walk", ((1, 0), (0, 1), (1, 1)))
        back = tuple(("walk", ((1, 0), (1, 1))) for _ in tight.rules)
        for paper in (by_walk, by_other_walk):
            self.assertIs(shows_same(tight, plain(tight), ("papers", (paper,), back)), True)
        none = nobodys_rules()[0]
        walks = ("walks", ((0, 0), (0, 1)), ((0, 1), (0, 0)))
        # Neither rule of none is shown by a walk that is none of plain(none).
        self.assertEqual(plain(none), Rules(1, (((0, 0), (0, 0)), ((0, 1), (0, 1)))))
        self.assertIs(shows_same(none, none, ("papers", (walks, walks), (walks, walks))), True)
        self.assertIs(shows_same(none, none, ("papers", (walks, walks), (walks, ("row", (0,))))), False)

    def test_no_rules_at_all(self):
        self.assertEqual(same_paper(Rules(4, ()), Rules(4, ())), ("papers", (), ()))
        self.assertIs(shows_same(Rules(4, ()), Rules(4, ()), ("papers", (), ())), True)

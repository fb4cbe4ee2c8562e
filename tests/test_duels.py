"""Points 56 and 57: duels of rows, and rows of most that are beaten."""

import unittest
from itertools import combinations_with_replacement, product

from middlerows.cubes import crossing
from middlerows.duels import beaten_paper, beaters, duel, never_beaten, shows_beaten, unbeaten
from middlerows.errors import BadRow, BadVotes, NoRules, NotKept, NotStraight
from middlerows.flips import is_straight
from middlerows.rules import Rules
from tests import slow
from tests.samples import (
    OTHER_KINDS, changed, many_rules, nobodys_rules, rules_with_rows, some_rules, some_votes, tied_rules, wide_rules)
from tests.test_votes import BAD_ROWS, BAD_VOTES, ROW, RULES, VOTES

FREE = Rules(3, ())
CALLS = (
    (duel, (ROW, ROW)), (duel, (None, None)), (beaters, (ROW,)), (beaters, (None,)), (unbeaten, ()))
TIED = Rules(2, (((0, 0), (1, 1)), ((0, 1), (1, 0))))


def is_such_a_pair(rules, value):
    """Whether a value made of tuples is an odd number of votes, and a row that beats their row of most."""
    rows = slow.kept(rules.many, rules.rules)
    votes, row = value
    if len(votes) not in (1, 3, 5, 7, 9, 11, 13, 15) or any(some not in rows for some in votes + (row,)):
        return False
    return row in slow.beaters(rows, votes, slow.most(votes))


class TestDuels(unittest.TestCase):
    def test_against_all_votes(self):
        for rules in rules_with_rows():
            rows = slow.kept(rules.many, rules.rules)
            for votes in some_votes(rules, 3, (1, 2, 3, 4, 5, 7, 15), seed=4):
                for one, other in product(rows, rows):
                    self.assertEqual(duel(rules, votes, one, other), slow.duel(votes, one, other))
                found = {row: slow.beaters(rows, votes, row) for row in rows}
                for row in rows:
                    self.assertEqual(beaters(rules, votes, row), found[row])
                self.assertEqual(unbeaten(rules, votes), [row for row in rows if not found[row]])

    def test_edges(self):
        self.assertEqual(duel(FREE, ((0, 0, 0),), (0, 0, 0), (0, 0, 0)), (0, 0))
        self.assertEqual(duel(FREE, ((0, 0, 1), (0, 1, 0)), (0, 0, 0), (0, 1, 1)), (0, 0))
        self.assertEqual(duel(FREE, ((0, 0, 0),) * 15, (0, 0, 0), (1, 0, 0)), (15, 0))
        self.assertEqual(beaters(FREE, ((0, 0, 0), (1, 1, 1)), (0, 0, 0)), [])
        self.assertEqual(unbeaten(FREE, ((1, 0, 1),)), [(1, 0, 1)])
        self.assertEqual(unbeaten(Rules(8, ()), ((0,) * 8,) * 3), [(0,) * 8])

    def test_lists_are_new(self):
        beaters(FREE, ((1, 1, 1),), (0, 0, 0)).clear()
        unbeaten(FREE, ((1, 1, 1),)).clear()
        self.assertEqual(len(beaters(FREE, ((1, 1, 1),), (0, 0, 0))), 7)
        self.assertEqual(unbeaten(FREE, ((1, 1, 1),)), [(1, 1, 1)])


class TestNeverBeaten(unittest.TestCase):
    def test_just_if_no_three_places_cross(self):
        told = set()
        for rules in many_rules() + tied_rules(4, 10) + some_rules(4, 60, 4, seed=17) + some_rules(5, 30, 4, seed=17):
            rows = slow.kept(rules.many, rules.rules)
            if not rows or slow.tied(rules.many, rows):
                self.assertRaises(NotStraight, never_beaten, rules)
                self.assertRaises(NotStraight, beaten_paper, rules)
                continue
            never = never_beaten(rules)
            told.add(never)
            self.assertIs(never, not slow.three_cross(rules.many, rows))
            paper = beaten_paper(rules)
            self.assertIs(paper is None, never)
            if not never:
                self.assertTrue(is_such_a_pair(rules, paper), paper)
                self.assertIs(shows_beaten(rules, paper), True)
        self.assertEqual(told, {True, False})

    def test_against_all_votes_of_1_3_and_5(self):
        for rules in [FREE, RULES, Rules(1, ()), Rules(2, ())] + some_rules(3, 25, 3, seed=18):
            rows = slow.kept(rules.many, rules.rules)
            if not rows or slow.tied(rules.many, rows):
                continue
            beaten = False
            for many in (1, 3, 5):
                for votes in combinations_with_replacement(rows, many):
                    beaten = beaten or slow.beaters(rows, votes, slow.most(votes)) != []
            self.assertIs(never_beaten(rules), not beaten)

    def test_not_straight(self):
        for rules in nobodys_rules() + [TIED, Rules(8, (((0, 0), (7, 0)), ((0, 1), (7, 1))))]:
            self.assertRaises(NotStraight, never_beaten, rules)
            self.assertRaises(NotStraight, beaten_paper, rules)
        # Places with one value alone are not tied.
        self.assertIs(never_beaten(Rules(2, (((0, 0), (0, 0)), ((1, 0), (1, 0))))), True)
        self.assertIsNone(beaten_paper(Rules(1, (((0, 1), (0, 1)),))))

    def test_wide_rules(self):
        for rules in wide_rules() + some_rules(8, 15, 12, seed=19):
            if slow.kept(8, rules.rules) and is_straight(rules):
                pairs = crossing(rules)
                three = any(
                    (one, other) in pairs and (one, third) in pairs
                    for other, third in pairs for one in range(other))
                self.assertIs(never_beaten(rules), not three)
                if three:
                    self.assertTrue(is_such_a_pair(rules, beaten_paper(rules)))


class TestShowsBeaten(unittest.TestCase):
    def test_all_pairs_of_3_votes_and_some_of_5(self):
        for rules in (FREE, RULES, TIED, Rules(3, (((0, 0), (1, 1)), ((0, 1), (1, 0))))):
            rows = slow.kept(rules.many, rules.rules)
            tried = list(product(product(rows, repeat=3), rows)) if rules.many < 3 or len(rows) < 5 else []
            tried += list(product(combinations_with_replacement(rows, 5), rows))[::3]
            tried += list(product(some_votes(rules, 20, (2, 4, 7, 9, 15)), rows))
            for value in tried:
                self.assertIs(shows_beaten(rules, value), is_such_a_pair(rules, value))

    def test_rules_of_all_kinds(self):
        # Tied places, too: what shows_beaten tells is told of any rules.
        tied = Rules(6, tuple(sorted(
            rule for one in (0, 2, 4) for rule in (((one, 0), (one + 1, 1)), ((one, 1), (one + 1, 0))))))
        votes, row = beaten_paper(FREE)
        twice = [tuple(value for value in some for _ in (0, 1)) for some in votes + (row,)]
        self.assertRaises(NotStraight, never_beaten, tied)
        self.assertIs(shows_beaten(tied, (tuple(twice[:-1]), twice[-1])), True)
        for rules in nobodys_rules():
            self.assertIs(shows_beaten(rules, (((0,) * rules.many,), (0,) * rules.many)), False)

    def test_rows_that_do_not_keep_the_rules(self):
        votes, row = beaten_paper(FREE)
        self.assertIs(shows_beaten(FREE, (votes, row)), True)
        for row_of_it in votes + (row,):
            rules = Rules(3, (((0, 1 - row_of_it[0]), (1, 1 - row_of_it[1])),))
            self.assertIs(shows_beaten(rules, (votes, row)), False)
        # More votes are nearer to this row, and all of them keep the rule, but the row does not.
        votes = ((0,) * 5, (0,) * 5, (1, 1, 1, 0, 0), (1, 1, 0, 1, 0), (0, 0, 1, 1, 1))
        rules = Rules(5, (((0, 0), (4, 0)),))
        self.assertEqual(slow.duel(votes, (1,) * 5, (0,) * 5), (3, 2))
        self.assertIs(shows_beaten(rules, (votes, (1,) * 5)), False)
        self.assertNotIn((1,) * 5, beaters(rules, votes, (0,) * 5))
        self.assertIs(shows_beaten(Rules(5, ()), (votes, (1,) * 5)), True)

    def test_values_changed_in_one_thing(self):
        paper = beaten_paper(FREE)
        for value in changed(paper):
            due = False
            if type(value) is tuple and len(value) == 2 and type(value[0]) is tuple:
                things = value[0] + (value[1],)
                if all(type(thing) is tuple and all(type(some) is int for some in thing) for thing in things):
                    due = is_such_a_pair(FREE, value)
            self.assertIs(shows_beaten(FREE, value), due, value)

    def test_values_of_other_kinds(self):
        votes, row = beaten_paper(FREE)
        for value in OTHER_KINDS + (
                (), (votes,), (row, votes), (votes, row, row), [votes, row], (list(votes), row), (votes, list(row)),
                (votes * 4, row), (votes[:4], row), ((), row), (None, row), (votes, None), votes, row, (votes, votes)):
            with self.subTest(value=value):
                self.assertIs(shows_beaten(FREE, value), False)
        self.assertIs(shows_beaten(FREE, (votes * 3, row)), True)

    def test_no_rules_value(self):
        for value in OTHER_KINDS:
            for call, more in ((never_beaten, ()), (beaten_paper, ()), (shows_beaten, (beaten_paper(FREE),))):
                with self.subTest(call=call, value=value):
                    self.assertRaises(NoRules, call, value, *more)


class TestWrongInputs(unittest.TestCase):
    def test_bad_votes(self):
        for votes, index in BAD_VOTES:
            for call, more in CALLS:
                with self.subTest(call=call, votes=votes):
                    with self.assertRaises(BadVotes) as told:
                        call(RULES, votes, *more)
                    self.assertEqual(told.exception.index, index)
                    self.assertRaises(NoRules, call, None, votes, *more)

    def test_bad_row_then_not_kept_for_one_then_for_other(self):
        for row in BAD_ROWS:
            with self.subTest(row=row):
                self.assertRaises(BadRow, beaters, RULES, VOTES, row)
                self.assertRaises(BadRow, duel, RULES, VOTES, row, ROW)
                self.assertRaises(BadRow, duel, RULES, VOTES, row, (1, 0, 0))
                self.assertRaises(BadRow, duel, RULES, VOTES, ROW, row)
                self.assertRaises(NotKept, duel, RULES, VOTES, (1, 0, 0), row)
        self.assertRaises(NotKept, beaters, RULES, VOTES, (1, 0, 1))
        self.assertRaises(NotKept, duel, RULES, VOTES, ROW, (1, 0, 1))
        self.assertRaises(NotKept, duel, RULES, VOTES, (1, 0, 1), ROW)

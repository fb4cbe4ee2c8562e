"""Points 54 and 55: votes, totals, and the row of most."""

import unittest
from itertools import product

from middlerows.errors import BadAll, BadIndex, BadRow, BadVotes, EvenVotes, NoRules, NotKept
from middlerows.rules import Rules, keeps
from middlerows.votes import least_totals, may_become, most_row, sure_of_most, total_steps
from tests import slow
from tests.samples import OTHER_KINDS, nobodys_rules, rules_with_rows, some_votes, tied_rules

RULES = Rules(3, (((0, 0), (1, 1)),))
VOTES = ((0, 0, 1), (0, 1, 0), (1, 1, 1))
ROW = (0, 1, 1)
# No votes of these rules, with the index that tells where.
BAD_VOTES = [(value, None) for value in OTHER_KINDS if not isinstance(value, tuple)] + [
    ((), None), (list(VOTES), None), ({0: ROW}, None), ((ROW,) * 16, None), ((None,) * 16, None), (((),), 0),
    ((None,), 0), (VOTES[0], 0), ((VOTES,), 0), (VOTES + (None,), 3), (VOTES + ((1, 0, 0),), 3), (((1, 0, 1),) * 3, 0),
    ((ROW, [0, 1, 1], ROW), 1), ((ROW, (0, 1), ROW), 1), ((ROW, (0, 1, 1, 1), ROW), 1), ((ROW, ROW, (0, True, 1)), 2),
    ((ROW, ROW, (False, 1, 1)), 2), ((ROW, ROW, (0, 1, 2)), 2), ((ROW, ROW, (0, 1, -1)), 2),
    ((ROW, ROW, (0, 1, None)), 2),
    ((ROW, "011", None), 1), ((ROW,) * 14 + ((1, 0, 0),), 14), ((ROW, (1, 0, 0), None), 1), ((ROW, {0: 0}), 1)]
CALLS = (
    (total_steps, (ROW,)), (total_steps, (None,)), (least_totals, ()), (most_row, ()), (may_become, (0,)),
    (may_become, (None,)), (sure_of_most, (15,)), (sure_of_most, (None,)))
BAD_ROWS = OTHER_KINDS + ((), (0, 0), (0, 0, 0, 0), (0, True, 0), (0, 0, 2), [0, 0, 0], "000", (0, None, 0))


class TestTotals(unittest.TestCase):
    def test_against_all_rows(self):
        for rules in rules_with_rows():
            rows = slow.kept(rules.many, rules.rules)
            for votes in some_votes(rules, 6, (1, 2, 3, 4, 5, 8, 15)):
                for row in rows:
                    self.assertEqual(total_steps(rules, votes, row), slow.total(votes, row))
                least = min(slow.total(votes, row) for row in rows)
                self.assertEqual(least_totals(rules, votes), [row for row in rows if slow.total(votes, row) == least])

    def test_even_numbers_leave_rows_without_a_value_of_fewer_than_half(self):
        for rules in rules_with_rows():
            for votes in some_votes(rules, 4, (2, 4, 6)):
                due = []
                for row in slow.kept(rules.many, rules.rules):
                    counts = [sum(1 for vote in votes if vote[place] == value) for place, value in enumerate(row)]
                    if all(2 * count >= len(votes) for count in counts):
                        due.append(row)
                self.assertEqual(least_totals(rules, votes), due)

    def test_1_vote_and_15(self):
        for row in slow.rows(3):
            self.assertEqual(least_totals(Rules(3, ()), (row,)), [row])
            self.assertEqual(most_row(Rules(3, ()), (row,)), row)
            self.assertEqual(total_steps(Rules(3, ()), (row,) * 15, (0, 0, 0)), 15 * sum(row))
            self.assertEqual(most_row(Rules(3, ()), (row,) * 8 + ((1, 1, 1),) * 7), row)
        self.assertEqual(len(least_totals(Rules(8, ()), ((0,) * 8, (1,) * 8))), 256)

    def test_lists_are_new(self):
        least_totals(RULES, VOTES).clear()
        may_become(RULES, VOTES, 0).clear()
        self.assertEqual((len(least_totals(RULES, VOTES)), len(may_become(RULES, VOTES, 0))), (1, 4))


class TestMostRow(unittest.TestCase):
    def test_against_the_words(self):
        for rules in rules_with_rows():
            for votes in some_votes(rules, 10, (1, 3, 3, 5, 7, 15)):
                row = most_row(rules, votes)
                self.assertEqual(row, slow.most(votes))
                self.assertIs(keeps(rules, row), True)
                self.assertEqual(least_totals(rules, votes), [row])

    def test_of_three_votes_the_middle(self):
        rows = slow.kept(3, RULES.rules)
        for votes in product(rows, repeat=3):
            self.assertEqual(most_row(RULES, votes), slow.middle(*votes))


class TestMayBecome(unittest.TestCase):
    def test_against_all_rows(self):
        for rules in rules_with_rows():
            rows = slow.kept(rules.many, rules.rules)
            for votes in some_votes(rules, 3, (1, 3, 5, 7)):
                for index in range(len(votes)):
                    due = {slow.most(votes[:index] + (row,) + votes[index + 1:]) for row in rows}
                    found = may_become(rules, votes, index)
                    self.assertEqual(found, sorted(due))
                    # No vote can draw the row of most nearer to itself by standing elsewhere.
                    apart = slow.apart(votes[index], most_row(rules, votes))
                    self.assertTrue(all(slow.apart(votes[index], row) >= apart for row in found))

    def test_1_vote_and_15(self):
        self.assertEqual(may_become(RULES, (ROW,), 0), slow.kept(3, RULES.rules))
        self.assertEqual(may_become(RULES, (ROW,) * 15, 14), [ROW])
        self.assertEqual(may_become(Rules(1, ()), ((0,),) * 7 + ((1,),) * 8, 14), [(0,), (1,)])
        self.assertEqual(may_become(Rules(1, ()), ((0,),) * 7 + ((1,),) * 8, 0), [(1,)])

    def test_bad_index(self):
        for index in OTHER_KINDS + (3, -1, "0", (0,), [0]):
            with self.subTest(index=index):
                self.assertRaises(BadIndex, may_become, RULES, VOTES, index)
        self.assertRaises(BadIndex, may_become, RULES, VOTES[:1], 1)


class TestSureOfMost(unittest.TestCase):
    def test_against_all_further_votes(self):
        for rules in rules_with_rows()[::2] + tied_rules(3, 4, seed=16) + [Rules(2, (((0, 1), (0, 1)),))]:
            rows = slow.kept(rules.many, rules.rules)
            for votes in some_votes(rules, 3, (1, 2, 3, 4, 5), seed=2):
                for many in range(len(votes) | 1, len(votes) + 5, 2):
                    further = many - len(votes)
                    if len(rows) ** further > 700:
                        continue
                    ends = [slow.most(votes + more) for more in product(rows, repeat=further)]
                    self.assertEqual(sure_of_most(rules, votes, many), slow.wants_of_all(ends))

    def test_as_many_as_there_are_and_15(self):
        for rules in rules_with_rows()[::3]:
            for votes in some_votes(rules, 3, (1, 3, 5, 15), seed=3):
                self.assertEqual(sure_of_most(rules, votes, len(votes)), tuple(enumerate(most_row(rules, votes))))
        for ones, due in ((7, ()), (8, ((0, 1),)), (14, ((0, 1),))):
            self.assertEqual(sure_of_most(Rules(1, ()), ((1,),) * ones, 15), due)
            # What all rows have is sure from the first vote on.
            self.assertEqual(sure_of_most(Rules(1, (((0, 1), (0, 1)),)), ((1,),) * ones, 15), ((0, 1),))
        self.assertEqual(sure_of_most(RULES, (ROW,), 15), ())
        self.assertEqual(sure_of_most(Rules(2, (((1, 0), (1, 0)),)), ((1, 0), (1, 0), (0, 0)), 3), ((0, 1), (1, 0)))

    def test_bad_all(self):
        for many in OTHER_KINDS + (1, 2, 4, 14, 16, 17, 0, -3, "3", (3,), [5], 3 + 10 ** 30):
            if not (type(many) is int and many in (3, 5, 7, 9, 11, 13, 15)):
                with self.subTest(many=many):
                    self.assertRaises(BadAll, sure_of_most, RULES, VOTES, many)
        self.assertRaises(BadAll, sure_of_most, RULES, VOTES[:2], 2)
        self.assertRaises(BadAll, sure_of_most, RULES, VOTES[:2], 1)
        self.assertRaises(BadAll, sure_of_most, RULES, VOTES[:1], True)
        self.assertRaises(BadAll, sure_of_most, RULES, (ROW,) * 15, 17)


class TestWrongInputs(unittest.TestCase):
    def test_bad_votes(self):
        for votes, index in BAD_VOTES:
            for call, more in CALLS:
                with self.subTest(call=call, votes=votes):
                    with self.assertRaises(BadVotes) as told:
                        call(RULES, votes, *more)
                    self.assertEqual(told.exception.index, index)
                    self.assertRaises(NoRules, call, None, votes, *more)

    def test_rules_that_no_row_keeps(self):
        for rules in nobodys_rules():
            for call, more in CALLS:
                with self.assertRaises(BadVotes) as told:
                    call(rules, ((0,) * rules.many,), *more)
                self.assertEqual(told.exception.index, 0)

    def test_even_votes(self):
        for many in range(2, 15, 2):
            for call, more in ((most_row, ()), (may_become, (0,)), (may_become, (None,)), (may_become, (many,))):
                with self.subTest(call=call, many=many):
                    self.assertRaises(EvenVotes, call, RULES, (ROW,) * many, *more)

    def test_bad_row_and_not_kept(self):
        for row in BAD_ROWS:
            with self.subTest(row=row):
                self.assertRaises(BadRow, total_steps, RULES, VOTES, row)
        for row in ((1, 0, 0), (1, 0, 1)):
            self.assertRaises(NotKept, total_steps, RULES, VOTES, row)

    def test_no_rules_value(self):
        for value in OTHER_KINDS:
            for call, more in CALLS:
                with self.subTest(call=call, value=value):
                    self.assertRaises(NoRules, call, value, VOTES, *more)

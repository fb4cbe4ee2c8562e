"""Point 26: rows with gaps, and places that settle all rows."""

import unittest
from itertools import product

from middlerows.errors import BadGaps, BadPlaces, NoRules
from middlerows.gaps import are_settling, may_be, settling_places
from middlerows.rules import Rules
from tests import slow
from tests.samples import OTHER_KINDS, few_rules, many_rules, nobodys_rules, wide_rules

CHAIN = Rules(3, (((0, 0), (1, 1)), ((1, 0), (2, 1))))
ONE_ROW = Rules(2, (((0, 1), (0, 1)), ((1, 0), (1, 0))))
BAD_GAPS = OTHER_KINDS + (
    (), (0, 1), (0, 1, None, 1), (0, True, None), (False, None, None), (None, 2, None), (0, -1, 1), [0, 1, None],
    "01N", ("0", 1, 1), ((), 0, 1), {0: None, 1: 1, 2: 0}, (None, None, [0]))
BAD_PLACES = OTHER_KINDS + (
    (3,), (-1,), (0, 0), (1, 0), (0, 2, 1), (True,), (False,), (0, True), [0], [0, 1], ((0,),), ("0",), (0, 3), (None,))


def unlike_in(rows, places):
    return all(
        any(one[place] != other[place] for place in places) for one, other in product(rows, rows) if one != other)


class TestMayBe(unittest.TestCase):
    def test_against_all_rows(self):
        for rules in few_rules() + nobodys_rules()[:4]:
            for gaps in product((None, 0, 1), repeat=rules.many):
                rows = [
                    row for row in slow.kept(rules.many, rules.rules)
                    if all(gap is None or gap == value for gap, value in zip(gaps, row))]
                expected = tuple(tuple(sorted({row[place] for row in rows})) for place in range(rules.many))
                self.assertEqual(may_be(rules, gaps), expected)

    def test_gaps_in_all_places_and_in_none(self):
        self.assertEqual(may_be(CHAIN, (None, None, None)), ((0, 1), (0, 1), (0, 1)))
        self.assertEqual(may_be(CHAIN, (0, 1, 1)), ((0,), (1,), (1,)))
        self.assertEqual(may_be(CHAIN, (1, 0, 0)), ((), (), ()))
        self.assertEqual(may_be(Rules(8, ()), (None,) * 8), ((0, 1),) * 8)
        for rules in nobodys_rules():
            self.assertEqual(may_be(rules, (None,) * rules.many), ((),) * rules.many)

    def test_bad_gaps(self):
        for gaps in BAD_GAPS:
            with self.subTest(gaps=gaps), self.assertRaises(BadGaps):
                may_be(CHAIN, gaps)
        for value in OTHER_KINDS:
            with self.subTest(value=value), self.assertRaises(NoRules):
                may_be(value, None)


class TestSettlingPlaces(unittest.TestCase):
    def test_against_all_lots_of_places(self):
        for rules in many_rules() + nobodys_rules()[:4]:
            rows = slow.kept(rules.many, rules.rules)
            settling = [some for some in slow.subsets(range(rules.many)) if unlike_in(rows, some)]
            fewest = min(map(len, settling))
            self.assertEqual(settling_places(rules), min(some for some in settling if len(some) == fewest))
            for places in slow.subsets(range(rules.many)):
                self.assertIs(are_settling(rules, places), places in settling)

    def test_edges(self):
        self.assertEqual((settling_places(ONE_ROW), are_settling(ONE_ROW, ())), ((), True))
        self.assertEqual(settling_places(Rules(8, ())), tuple(range(8)))
        self.assertIs(are_settling(Rules(8, ()), tuple(range(7))), False)
        self.assertIs(are_settling(CHAIN, ()), False)
        tied = Rules(2, (((0, 0), (1, 1)), ((0, 1), (1, 0))))
        self.assertEqual(settling_places(tied), (0,))
        self.assertIs(are_settling(tied, (1,)), True)
        for rules in nobodys_rules():
            self.assertEqual((settling_places(rules), are_settling(rules, ())), ((), True))
        for rules in wide_rules()[2:]:
            self.assertIs(are_settling(rules, settling_places(rules)), True)

    def test_bad_places(self):
        for places in BAD_PLACES:
            with self.subTest(places=places), self.assertRaises(BadPlaces):
                are_settling(CHAIN, places)
        for value in OTHER_KINDS:
            with self.subTest(value=value), self.assertRaises(NoRules):
                are_settling(value, None)
            with self.subTest(value=value), self.assertRaises(NoRules):
                settling_places(value)

"""Points 24 and 25: the nearest rows, rows most apart, and wants told in turn."""

import random
import unittest
from itertools import combinations, product

from middlerows.errors import BadRow, BadTold, NoRules
from middlerows.nearest import first_against, first_settling, flips_to, most_apart, nearest, needless
from middlerows.rules import Rules
from middlerows.tellings import settles
from tests import slow
from tests.samples import OTHER_KINDS, few_rules, many_rules, nobodys_rules, wide_rules

CHAIN = Rules(3, (((0, 0), (1, 1)), ((1, 0), (2, 1))))
ONE_ROW = Rules(2, (((0, 1), (0, 1)), ((1, 0), (1, 0))))
BAD_ROWS = OTHER_KINDS + ((), (0, 1), (0, 1, 1, 1), (0, True, 1), (0, 2, 1), [0, 1, 1], (0, None, 1), ("0", 1, 1))


def tolds(many, how_many):
    chance = random.Random(many)
    return [()] + [
        tuple(chance.choice(slow.wants(many)) for _ in range(chance.randrange(1, 9))) for _ in range(how_many)]


class TestNearest(unittest.TestCase):
    def test_against_all_rows(self):
        for rules in few_rules() + nobodys_rules()[:4] + wide_rules()[2:4]:
            rows = slow.kept(rules.many, rules.rules)
            for row in slow.rows(rules.many)[::1 if rules.many < 6 else 11]:
                flips = min((slow.apart(row, other) for other in rows), default=None)
                self.assertEqual(flips_to(rules, row), flips)
                least = [other for other in rows if slow.apart(row, other) == flips]
                self.assertEqual(nearest(rules, row), least[0] if rows else None)

    def test_most_apart_against_all_pairs(self):
        for rules in many_rules() + nobodys_rules() + wide_rules()[2:]:
            rows = slow.kept(rules.many, rules.rules)
            pairs = list(combinations(rows, 2))
            most = max((slow.apart(one, other) for one, other in pairs), default=None)
            expected = min((pair for pair in pairs if slow.apart(*pair) == most), default=None)
            self.assertEqual(most_apart(rules), expected)

    def test_edges(self):
        self.assertIsNone(most_apart(ONE_ROW))
        self.assertEqual((flips_to(ONE_ROW, (0, 1)), nearest(ONE_ROW, (0, 1))), (2, (1, 0)))
        self.assertEqual((flips_to(CHAIN, (1, 1, 1)), nearest(CHAIN, (1, 1, 1))), (0, (1, 1, 1)))
        self.assertEqual(most_apart(Rules(8, ())), ((0,) * 8, (1,) * 8))
        self.assertEqual(most_apart(Rules(1, ())), ((0,), (1,)))
        for rules in nobodys_rules():
            row = (0,) * rules.many
            self.assertEqual((flips_to(rules, row), nearest(rules, row), most_apart(rules)), (None, None, None))

    def test_bad_row(self):
        for call in (flips_to, nearest):
            for row in BAD_ROWS:
                with self.subTest(call=call, row=row), self.assertRaises(BadRow):
                    call(CHAIN, row)
                with self.subTest(call=call, row=row), self.assertRaises(NoRules):
                    call(None, row)
            with self.assertRaises(BadRow):
                call(nobodys_rules()[0], (0, 0))


class TestToldInTurn(unittest.TestCase):
    def test_against_all_rows(self):
        for rules in few_rules() + nobodys_rules():
            for told in tolds(rules.many, 12) + [tuple(two) for two in product(slow.wants(rules.many)[:6], repeat=2)]:
                counts = [len(slow.left(rules.many, rules.rules, told[:many])) for many in range(len(told) + 1)]
                settling = counts.index(1) if 1 in counts else None
                self.assertEqual(first_settling(rules, told), settling)
                against = [index for index in range(len(told)) if counts[index + 1] == 0]
                self.assertEqual(first_against(rules, told), min(against, default=None))
                settled = []
                for index in range(len(told)):
                    rows = slow.left(rules.many, rules.rules, told[:index])
                    if rows and all(slow.has(row, told[index]) for row in rows):
                        settled.append(index)
                self.assertEqual(needless(rules, told), tuple(settled))

    def test_needless_by_settles(self):
        for told in tolds(3, 30):
            end = first_against(CHAIN, told)
            due = []
            for index in range(len(told) if end is None else end + 1):
                ahead = told[:index]
                if told[index] in settles(CHAIN, tuple(sorted(set(ahead)))):
                    due.append(index)
            self.assertEqual(needless(CHAIN, told), tuple(due))

    def test_none_told(self):
        self.assertEqual((first_settling(CHAIN, ()), first_against(CHAIN, ()), needless(CHAIN, ())), (None, None, ()))
        self.assertEqual((first_settling(ONE_ROW, ()), first_against(ONE_ROW, ())), (0, None))
        self.assertEqual(needless(ONE_ROW, ((0, 1), (1, 0), (0, 1))), (0, 1, 2))
        for rules in nobodys_rules():
            told = ((0, 0), (0, 0), (0, 1))
            self.assertEqual((first_settling(rules, ()), first_against(rules, ())), (None, None))
            self.assertEqual((first_settling(rules, told), first_against(rules, told)), (None, 0))
            self.assertEqual(needless(rules, told), ())

    def test_against_what_is_told(self):
        told = ((1, 1), (1, 1), (2, 0), (2, 0), (0, 1))
        self.assertEqual((first_settling(CHAIN, told), first_against(CHAIN, told)), (None, 2))
        self.assertEqual(needless(CHAIN, told), (1,))
        self.assertEqual(first_against(CHAIN, ((2, 1), (2, 0))), 1)

    def test_20_wants_and_21(self):
        twenty = ((0, 0),) * 20
        self.assertEqual(needless(CHAIN, twenty), tuple(range(1, 20)))
        self.assertEqual((first_settling(CHAIN, twenty), first_against(CHAIN, twenty)), (None, None))
        late = ((0, 0),) * 19 + ((2, 0),)
        self.assertEqual(first_settling(CHAIN, late), 20)
        self.assertEqual(first_against(CHAIN, ((0, 0),) * 19 + ((0, 1),)), 19)
        for call in (first_settling, first_against, needless):
            for told in (((0, 0),) * 21, (None,) * 21):
                with self.subTest(call=call), self.assertRaises(BadTold) as error:
                    call(CHAIN, told)
                self.assertIsNone(error.exception.index)

    def test_bad_told(self):
        cases = [(value, None) for value in (None, True, 0, 5, "", "ab", [], [(0, 0)], {}, {(0, 0): 1}, 10 ** 30)]
        for thing in (
                None, True, 0, "", "01", (), [0, 0], (0,), (0, 0, 0), (3, 0), (-1, 0), (0, 2), (0, -1), (0, True),
                (False, 0), (0, None), ("0", 0), ((0, 0), (1, 1)), {}, [(0, 0)]):
            cases += [((thing,), 0), (((0, 0), (0, 1), thing), 2), ((thing, None), 0), (((0, 0), thing, (0, 0)), 1)]
        for call in (first_settling, first_against, needless):
            for told, index in cases:
                with self.subTest(call=call, told=told):
                    with self.assertRaises(BadTold) as error:
                        call(CHAIN, told)
                    self.assertEqual(error.exception.index, index)
                    with self.assertRaises(NoRules):
                        call(None, told)

    def test_no_rules_value(self):
        for value in OTHER_KINDS:
            with self.subTest(value=value), self.assertRaises(NoRules):
                most_apart(value)

"""Points 21 and 22: wants that are told, what they leave and settle, and tellings of rows."""

import unittest

from middlerows.errors import BadRow, BadWants, NoRules, NotKept
from middlerows.rules import Rules, rows_of
from middlerows.settled import sure
from middlerows.tellings import (
    hardest_row, is_telling, least_telling, left_by, open_places, settles, telling_sizes, tellings)
from middlerows.walks import leads
from tests import slow
from tests.samples import OTHER_KINDS, few_rules, many_rules, nobodys_rules, some_rules, wide_rules

CHAIN = Rules(3, (((0, 0), (1, 1)), ((1, 0), (2, 1))))
ONE_ROW = Rules(2, (((0, 1), (0, 1)), ((1, 0), (1, 0))))
BAD_WANTS = OTHER_KINDS + (
    ((0, 0), (0, 0)), ((0, 0), (0, 1)), ((1, 0), (0, 0)), ((0, 1), (0, 0)), [(0, 0)], ((3, 0),), ((0, 2),),
    ((0, True),), ((False, 0),), ([0, 0],), (0, 0), ((0, 0), None), ((0, 0), (2, 0), (1, 0)), ((0, 0, 0),), ((-1, 0),))
BAD_ROWS = OTHER_KINDS + ((), (0, 1), (0, 1, 1, 1), (0, True, 1), (0, 2, 1), [0, 1, 1], (0, None, 1), ("0", 1, 1))


def slow_tellings(many, rules, row):
    of_row = [told for told in slow.told_lots(many) if slow.left(many, rules, told) == [row]]
    fewest = min(map(len, of_row))
    return sorted(told for told in of_row if len(told) == fewest)


class TestWantsThatAreTold(unittest.TestCase):
    def test_against_all_rows(self):
        for rules in few_rules() + nobodys_rules()[:4]:
            for told in slow.told_lots(rules.many):
                rows = slow.left(rules.many, rules.rules, told)
                self.assertEqual(left_by(rules, told), rows)
                self.assertIs(is_telling(rules, told), len(rows) == 1)
                if not rows:
                    self.assertEqual((settles(rules, told), open_places(rules, told)), (None, None))
                    continue
                had = tuple(want for want in slow.wants(rules.many) if all(slow.has(row, want) for row in rows))
                self.assertEqual(settles(rules, told), had)
                self.assertEqual(open_places(rules, told), tuple(slow.open_places(rules.many, rows)))

    def test_what_settles_tells_is_sure_or_led_to(self):
        for rules in few_rules() + wide_rules():
            for told in slow.told_lots(rules.many)[::7]:
                if left_by(rules, told):
                    led = {want for one in told for want in leads(rules, one)}
                    self.assertEqual(settles(rules, told), tuple(sorted(led | set(sure(rules)))))

    def test_no_wants_told(self):
        self.assertEqual(left_by(CHAIN, ()), rows_of(CHAIN))
        self.assertEqual((settles(CHAIN, ()), open_places(CHAIN, ())), ((), (0, 1, 2)))
        self.assertIs(is_telling(CHAIN, ()), False)
        self.assertEqual((left_by(ONE_ROW, ()), settles(ONE_ROW, ())), ([(1, 0)], ((0, 1), (1, 0))))
        self.assertEqual((open_places(ONE_ROW, ()), is_telling(ONE_ROW, ())), ((), True))

    def test_no_row_is_left(self):
        told = ((0, 1), (1, 0))
        self.assertEqual((left_by(CHAIN, told), settles(CHAIN, told), open_places(CHAIN, told)), ([], None, None))
        self.assertIs(is_telling(CHAIN, told), False)
        for rules in nobodys_rules():
            self.assertEqual((left_by(rules, ()), settles(rules, ()), open_places(rules, ())), ([], None, None))
            self.assertIs(is_telling(rules, ()), False)

    def test_bad_wants(self):
        for call in (left_by, settles, open_places, is_telling):
            for wants in BAD_WANTS:
                with self.subTest(call=call, wants=wants), self.assertRaises(BadWants):
                    call(CHAIN, wants)
                with self.subTest(call=call, wants=wants), self.assertRaises(NoRules):
                    call(None, wants)

    def test_lists_are_new(self):
        left_by(CHAIN, ()).clear()
        tellings(CHAIN, (0, 0, 0)).clear()
        self.assertEqual((len(left_by(CHAIN, ())), tellings(CHAIN, (0, 0, 0))), (4, [((2, 0),)]))


class TestTellings(unittest.TestCase):
    def test_against_all_wants_told(self):
        for rules in few_rules() + some_rules(5, 2, 7, seed=2):
            for row in slow.kept(rules.many, rules.rules):
                expected = slow_tellings(rules.many, rules.rules, row)
                self.assertEqual(tellings(rules, row), expected)
                self.assertEqual(least_telling(rules, row), expected[0])

    def test_sizes_and_the_hardest_row(self):
        for rules in many_rules() + wide_rules()[2:5]:
            sizes = telling_sizes(rules)
            rows = slow.kept(rules.many, rules.rules)
            self.assertEqual(sizes, tuple(len(least_telling(rules, row)) for row in rows))
            hardest = max(rows, key=lambda row: len(least_telling(rules, row)), default=None)
            self.assertEqual(hardest_row(rules), hardest)

    def test_edges(self):
        self.assertEqual(tellings(ONE_ROW, (1, 0)), [()])
        self.assertEqual((telling_sizes(ONE_ROW), hardest_row(ONE_ROW)), ((0,), (1, 0)))
        self.assertEqual(tellings(Rules(8, ()), (1,) * 8), [tuple((place, 1) for place in range(8))])
        self.assertEqual((telling_sizes(Rules(8, ())), hardest_row(Rules(8, ()))), ((8,) * 256, (0,) * 8))
        for rules in nobodys_rules():
            self.assertEqual((telling_sizes(rules), hardest_row(rules)), ((), None))
        # Two tellings of the same size.
        tied = Rules(2, (((0, 0), (1, 1)), ((0, 1), (1, 0))))
        self.assertEqual(tellings(tied, (1, 1)), [((0, 1),), ((1, 1),)])

    def test_bad_row_and_not_kept(self):
        for call in (tellings, least_telling):
            for row in BAD_ROWS:
                with self.subTest(call=call, row=row), self.assertRaises(BadRow):
                    call(CHAIN, row)
                with self.subTest(call=call, row=row), self.assertRaises(NoRules):
                    call(None, row)
            for rules in few_rules() + nobodys_rules():
                for row in slow.rows(rules.many):
                    if row not in slow.kept(rules.many, rules.rules):
                        with self.subTest(call=call, row=row), self.assertRaises(NotKept):
                            call(rules, row)

    def test_no_rules_value(self):
        for value in OTHER_KINDS:
            for call in (telling_sizes, hardest_row):
                with self.subTest(call=call, value=value), self.assertRaises(NoRules):
                    call(value)

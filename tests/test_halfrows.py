"""Points 39, 41 and 42: half rows by prices."""

import unittest
from itertools import product

from middlerows.cheaprows import all_cheapest
from middlerows.errors import BadHalves, BadPrices, NoRules, NotLeast, TooMany
from middlerows.halfrows import (
    all_halves, gap, half_cost, half_rows, keeps_halves, least_half_cost, staying, whole_wants)
from middlerows.rules import Rules
from tests import slow
from tests.samples import (
    OTHER_KINDS, all_small_rules, changed, few_rules, many_rules, nobodys_rules, some_prices, some_rules, wide_rules)

RING = Rules(3, (((0, 1), (1, 1)), ((0, 1), (2, 1)), ((1, 1), (2, 1))))
PRICES = (1, 1, 1)
BAD_PRICES = OTHER_KINDS + (
    (), (0, 1), (0, 1, 2, 3), (0, True, 1), (False, 1, 1), (51, 0, 0), (0, 0, -51), [1, 1, 1], (1, None, 1), "111",
    ("1", 1, 1), (1, (1,), 1), {0: 1, 1: 1, 2: 1}, (1, 1, 10 ** 30), (1, 1, []))
# No half rows of three places.
BAD_HALVES = OTHER_KINDS + (
    (), (1, 1), (1, 1, 1, 1), (1, True, 1), (2, 2, False), (3, 2, 2), (-1, 2, 2), [1, 1, 1], (1, None, 1), "111",
    ("1", 1, 1), (1, 1, (1,)), {0: 1, 1: 1, 2: 1}, (1, 10 ** 30, 1), (1, [], 1))
# Just so many half rows keep these, and there are no rules for just 2000 or 2001.
HALVES_1998 = Rules(
    8, (((0, 0), (1, 1)), ((1, 1), (1, 1)), ((1, 1), (2, 1)), ((1, 1), (3, 0)), ((2, 1), (5, 1))))
HALVES_2025 = Rules(8, (((0, 0), (2, 0)), ((0, 1), (1, 1)), ((1, 1), (3, 0))))
RULES = few_rules() + all_small_rules()[::6] + some_rules(4, 15, 12, seed=11) + nobodys_rules()[:4]
WITH_PRICES = (
    (least_half_cost, ()), (half_rows, ()), (whole_wants, ()), (all_halves, ()), (gap, ()), (half_cost, (None,)),
    (half_cost, ((1, 1, 1),)), (staying, (None,)), (staying, ((1, 1, 1),)), (staying, ((2, 2, 2),)))


def priced_rules():
    for rules in RULES:
        for prices in some_prices(rules.many, 4, seed=5) + [(0,) * rules.many, (50,) * rules.many]:
            yield rules, prices
    for rules in wide_rules()[1:4]:
        yield rules, some_prices(8, 1, seed=6)[0]


class TestKeepsHalves(unittest.TestCase):
    def test_against_all_half_rows(self):
        for rules in many_rules()[::2] + nobodys_rules()[:4]:
            right = set(slow.half_rows(rules.many, rules.rules))
            for value in product((0, 1, 2), repeat=rules.many):
                self.assertIs(keeps_halves(rules, value), value in right)

    def test_rows_as_half_rows_and_the_half_row_of_1s(self):
        for rules in many_rules()[::3] + wide_rules() + nobodys_rules():
            rows = slow.kept(rules.many, rules.rules)
            for row in slow.rows(rules.many)[:64]:
                self.assertIs(keeps_halves(rules, tuple(2 * value for value in row)), row in rows)
            self.assertIs(keeps_halves(rules, (1,) * rules.many), True)

    def test_the_same_want_twice_counts_twice(self):
        for value, due in ((0, False), (1, True), (2, True)):
            self.assertIs(keeps_halves(Rules(1, (((0, 1), (0, 1)),)), (value,)), due)
            self.assertIs(keeps_halves(Rules(1, (((0, 0), (0, 0)),)), (2 - value,)), due)

    def test_values_of_other_kinds(self):
        for value in BAD_HALVES:
            with self.subTest(value=value):
                self.assertIs(keeps_halves(RING, value), False)
                self.assertIs(keeps_halves(Rules(3, ()), value), False)

    def test_values_changed_in_one_thing(self):
        for rules in (RING, Rules(2, ()), Rules(1, (((0, 1), (0, 1)),)), Rules(2, (((0, 0), (1, 1)),))):
            right = slow.half_rows(rules.many, rules.rules)
            for value in [other for halves in right for other in changed(halves)]:
                # Of values with True and False in them none is a half row, though Python calls them equal.
                due = type(value) is tuple and all(type(thing) is int for thing in value) and value in right
                self.assertIs(keeps_halves(rules, value), due, value)


class TestHalfCost(unittest.TestCase):
    def test_against_the_words(self):
        for many in (1, 2, 3):
            for prices in some_prices(many, 5, seed=7):
                for halves in product((0, 1, 2), repeat=many):
                    self.assertEqual(half_cost(Rules(many, ()), prices, halves), slow.price(prices, halves))

    def test_rows_cost_twice(self):
        for row in slow.rows(3):
            twice = tuple(2 * value for value in row)
            self.assertEqual(half_cost(RING, (-50, 0, 50), twice), 2 * slow.price((-50, 0, 50), row))

    def test_half_rows_that_do_not_keep_the_rules(self):
        self.assertEqual(half_cost(RING, (3, 5, 7), (0, 0, 0)), 0)
        self.assertEqual(half_cost(nobodys_rules()[0], (-50,), (2,)), -100)


class TestLeastHalfRows(unittest.TestCase):
    def test_against_all_half_rows(self):
        for rules, prices in priced_rules():
            due = slow.least_half_rows(rules.many, rules.rules, prices)
            self.assertEqual(least_half_cost(rules, prices), slow.price(prices, due[0]))
            self.assertEqual(half_rows(rules, prices), due)
            whole = [want for want in slow.wants(rules.many) if all(want in slow.whole(halves) for halves in due)]
            self.assertEqual(whole_wants(rules, prices), tuple(whole))
            self.assertIs(all_halves(rules, prices), (1,) * rules.many in due)

    def test_edges(self):
        self.assertEqual(least_half_cost(Rules(8, ()), (-50, 50) * 4), -400)
        self.assertEqual(half_rows(Rules(8, ()), (-50, 50) * 4), [(2, 0) * 4])
        self.assertEqual(half_rows(Rules(2, ()), (0, 50)), [(0, 0), (1, 0), (2, 0)])
        self.assertEqual(whole_wants(Rules(2, ()), (0, 50)), ((1, 0),))
        self.assertEqual(half_rows(RING, (50, 50, 50)), [(1, 1, 1)])
        self.assertEqual(half_rows(RING, (-50, -50, -50)), [(2, 2, 2)])
        # A rule of the same want twice asks for one half alone.
        sure = Rules(1, (((0, 1), (0, 1)),))
        self.assertEqual((least_half_cost(sure, (50,)), half_rows(sure, (0,))), (50, [(1,), (2,)]))
        self.assertEqual((whole_wants(sure, (50,)), whole_wants(sure, (-1,))), ((), ((0, 1),)))
        self.assertEqual(half_rows(nobodys_rules()[0], (13,)), [(1,)])

    def test_2000_half_rows(self):
        zeros = (0,) * 8
        self.assertEqual(len(slow.half_rows(8, HALVES_1998.rules)), 1998)
        self.assertEqual(half_rows(HALVES_1998, zeros), sorted(slow.half_rows(8, HALVES_1998.rules)))
        self.assertEqual(len(slow.half_rows(8, HALVES_2025.rules)), 2025)
        for rules, prices in ((HALVES_2025, zeros), (Rules(8, ()), zeros), (Rules(8, ()), (1,) + zeros[1:])):
            with self.subTest(rules=rules.rules), self.assertRaises(TooMany) as told:
                half_rows(rules, prices)
            self.assertEqual(told.exception.most, 2000)
        # Just the list is too long: all else of them is told.
        self.assertEqual((least_half_cost(HALVES_2025, zeros), whole_wants(HALVES_2025, zeros)), (0, ()))
        self.assertEqual(whole_wants(Rules(8, ()), (1,) + zeros[1:]), ((0, 0),))
        self.assertIs(all_halves(Rules(8, ()), zeros), True)
        self.assertEqual(gap(Rules(8, ()), zeros), 0)
        self.assertEqual(len(staying(Rules(8, ()), zeros, (1,) * 8)), 256)
        self.assertEqual(len(half_rows(Rules(8, ()), (1, 1) + zeros[2:])), 729)

    def test_lists_are_new(self):
        half_rows(RING, PRICES).clear()
        self.assertEqual(half_rows(RING, PRICES), [(1, 1, 1)])


class TestStaying(unittest.TestCase):
    def test_against_all_rows(self):
        for rules, prices in priced_rules():
            rows = all_cheapest(rules, prices)
            for halves in slow.least_half_rows(rules.many, rules.rules, prices)[:30]:
                found = staying(rules, prices, halves)
                if rows is None:
                    self.assertIsNone(found)
                    continue
                whole = slow.whole(halves)
                self.assertEqual(found, [row for row in rows if all(slow.has(row, want) for want in whole)])
                # What is whole in some least half row is so in some cheapest row.
                self.assertNotEqual(found, [])

    def test_whole_wants_are_in_all_cheapest_rows(self):
        for rules, prices in priced_rules():
            for row in all_cheapest(rules, prices) or []:
                self.assertTrue(all(slow.has(row, want) for want in whole_wants(rules, prices)))

    def test_no_row_keeps_the_rules(self):
        for rules in nobodys_rules():
            self.assertIsNone(staying(rules, (0,) * rules.many, (1,) * rules.many))
            self.assertIsNone(gap(rules, (0,) * rules.many))

    def test_which_half_rows_may_stand(self):
        for rules, prices in ((RING, (1, 2, 3)), (RING, PRICES), (nobodys_rules()[0], (5,)), (Rules(2, ()), (0, -1))):
            kept = slow.half_rows(rules.many, rules.rules)
            least = slow.least_half_rows(rules.many, rules.rules, prices)
            for halves in product((0, 1, 2), repeat=rules.many):
                with self.subTest(rules=rules.rules, halves=halves):
                    if halves in least:
                        staying(rules, prices, halves)
                    elif halves in kept:
                        self.assertRaises(NotLeast, staying, rules, prices, halves)
                    else:
                        # It may cost less than the least, as much, or more.
                        self.assertRaises(BadHalves, staying, rules, prices, halves)


class TestGap(unittest.TestCase):
    def test_against_all_rows(self):
        for rules, prices in priced_rules():
            least = slow.price(prices, slow.least_half_rows(rules.many, rules.rules, prices)[0])
            rows = slow.kept(rules.many, rules.rules)
            due = 2 * min(slow.price(prices, row) for row in rows) - least if rows else None
            self.assertEqual(gap(rules, prices), due)

    def test_edges(self):
        self.assertEqual((gap(RING, (50, 50, 50)), gap(RING, (-50, -50, -50)), gap(RING, (0, 0, 0))), (50, 0, 0))


class TestWrongInputs(unittest.TestCase):
    def test_bad_prices_come_first(self):
        for prices in BAD_PRICES:
            for call, more in WITH_PRICES:
                with self.subTest(call=call, prices=prices):
                    self.assertRaises(BadPrices, call, RING, prices, *more)
                    self.assertRaises(NoRules, call, None, prices, *more)
        self.assertRaises(BadPrices, half_rows, nobodys_rules()[0], (0, 0))

    def test_bad_halves(self):
        for halves in BAD_HALVES:
            with self.subTest(halves=halves):
                self.assertRaises(BadHalves, half_cost, RING, PRICES, halves)
                self.assertRaises(BadHalves, staying, RING, PRICES, halves)
        self.assertRaises(BadHalves, staying, nobodys_rules()[0], (0,), (1, 1))
        # Errors come ahead of the None for rules that no row keeps.
        spare = Rules(2, (((0, 0), (0, 0)), ((0, 1), (0, 1))))
        self.assertIsNone(staying(spare, (1, 1), (1, 0)))
        self.assertRaises(NotLeast, staying, spare, (1, 1), (1, 1))
        self.assertRaises(BadHalves, staying, spare, (1, 1), (0, 0))

    def test_no_rules_value(self):
        for value in OTHER_KINDS:
            for call, more in WITH_PRICES:
                with self.subTest(call=call, value=value):
                    self.assertRaises(NoRules, call, value, PRICES, *more)
            self.assertRaises(NoRules, keeps_halves, value, (1, 1, 1))

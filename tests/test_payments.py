"""Points 39 and 40: payments, what half rows cost, and the bound between them."""

import unittest
from itertools import product

from middlerows.errors import BadHalves, BadPayments, BadPrices, NoRules
from middlerows.payments import payment_bound, payments_for, shows_payments
from middlerows.rules import Rules
from tests import slow
from tests.samples import (
    OTHER_KINDS, all_small_rules, changed, few_rules, nobodys_rules, some_payments, some_prices, some_rules, wide_rules)

RING = Rules(3, (((0, 1), (1, 1)), ((0, 1), (2, 1)), ((1, 1), (2, 1))))
PRICES = (1, 1, 1)
HALVES = (1, 1, 1)
BAD_PRICES = OTHER_KINDS + (
    (), (0, 1), (0, 1, 2, 3), (0, True, 1), (51, 0, 0), (0, 0, -51), [1, 1, 1], (1, None, 1), "111", ("1", 1, 1))
BAD_HALVES = OTHER_KINDS + (
    (), (1, 1), (1, 1, 1, 1), (1, True, 1), (2, 2, False), (3, 2, 2), (-1, 2, 2), [1, 1, 1], (1, None, 1), "111",
    ("1", 1, 1), (1, 1, (1,)), {0: 1, 1: 1, 2: 1}, (0, 0, 0), (1, 1, 0), (2, 1, 0))
BAD_PAYMENTS = OTHER_KINDS + (
    (), (1, 1), (1, 1, 1, 1), (1, True, 1), (False, 1, 1), (1001, 0, 0), (0, -1, 0), [1, 1, 1], (1, None, 1), "111",
    ("1", 1, 1), (1, (1,), 1), {0: 1, 1: 1, 2: 1}, (0, 0, 10 ** 30))
RULES = few_rules() + all_small_rules()[::6] + some_rules(4, 15, 12, seed=10) + nobodys_rules()[:4]


def least_cost(rules, prices):
    """The price of the cheapest half row, by all of them."""
    return min(slow.price(prices, halves) for halves in slow.half_rows(rules.many, rules.rules))


class TestPaymentBound(unittest.TestCase):
    def test_against_the_words(self):
        for rules in RULES:
            for prices, payments in zip(some_prices(rules.many, 6), some_payments(len(rules.rules), 6)):
                due = slow.bound(rules.many, rules.rules, prices, payments)
                self.assertEqual(payment_bound(rules, prices, payments), due)
                self.assertLessEqual(due, least_cost(rules, prices))

    def test_edges(self):
        self.assertEqual(payment_bound(Rules(2, ()), (-50, 50), ()), -100)
        self.assertEqual(payment_bound(RING, PRICES, (1000, 1000, 1000)), 3000 - 3 * 1998)
        # A want of a rule that has it twice gets the payment twice.
        sure = Rules(1, (((0, 1), (0, 1)),))
        self.assertEqual(payment_bound(sure, (50,), (50,)), 50)
        self.assertEqual(payment_bound(sure, (50,), (51,)), 49)


class TestPaymentsFor(unittest.TestCase):
    def test_their_bound_is_the_least_cost(self):
        for rules in RULES + wide_rules()[1:4]:
            for prices in some_prices(rules.many, 3 if rules.many < 8 else 1, seed=3):
                payments = payments_for(rules, prices)
                self.assertEqual(slow.bound(rules.many, rules.rules, prices, payments), least_cost(rules, prices))
                self.assertEqual(len(payments), len(rules.rules))
                for payment in payments:
                    self.assertIs(type(payment), int)
                    self.assertTrue(0 <= payment <= 1000)

    def test_small_prices(self):
        # What was paid for one rule at first must be paid for the other one.
        rules = Rules(2, (((0, 0), (0, 0)), ((0, 0), (1, 0))))
        for some in [rules] + all_small_rules()[5:200:40]:
            for prices in product(range(-2, 3), repeat=some.many):
                payments = payments_for(some, prices)
                self.assertEqual(slow.bound(some.many, some.rules, prices, payments), least_cost(some, prices))

    def test_prices_at_the_ends(self):
        every = Rules(8, tuple(((0, 1), (place, 0)) for place in range(1, 8)))
        for prices in ((50,) + (-50,) * 7, (50,) * 8, (-50,) * 8, (0,) * 8, (0,) + (-50,) * 7):
            payments = payments_for(every, prices)
            self.assertEqual(slow.bound(8, every.rules, prices, payments), least_cost(every, prices))
        self.assertEqual(payments_for(Rules(8, ()), (-50,) * 8), ())


class TestShowsPayments(unittest.TestCase):
    def test_what_the_program_answers(self):
        for rules in RULES:
            for prices in some_prices(rules.many, 2, seed=4):
                payments = payments_for(rules, prices)
                least = least_cost(rules, prices)
                for halves in slow.half_rows(rules.many, rules.rules)[:40]:
                    right = slow.price(prices, halves) == least
                    self.assertIs(shows_payments(rules, prices, halves, payments), right)

    def test_all_small_payments(self):
        for halves in slow.half_rows(3, RING.rules):
            for value in product(range(4), repeat=3):
                right = slow.bound(3, RING.rules, PRICES, value) == slow.price(PRICES, halves)
                self.assertIs(shows_payments(RING, PRICES, halves, value), right)

    def test_payments_changed_in_one_thing(self):
        for rules, prices in ((RING, PRICES), (RING, (1, 2, 3)), (Rules(2, ()), (-1, 1))):
            for halves in slow.half_rows(rules.many, rules.rules):
                for value in changed(payments_for(rules, prices)):
                    right = False
                    if type(value) is tuple and len(value) == len(rules.rules):
                        if all(type(thing) is int and 0 <= thing <= 1000 for thing in value):
                            due = slow.bound(rules.many, rules.rules, prices, value)
                            right = due == slow.price(prices, halves)
                    self.assertIs(shows_payments(rules, prices, halves, value), right)

    def test_values_of_other_kinds(self):
        for value in BAD_PAYMENTS:
            with self.subTest(value=value):
                self.assertIs(shows_payments(RING, PRICES, HALVES, value), False)
        # These would be bounds of it, were they payments.
        spare = Rules(1, (((0, 0), (0, 0)), ((0, 1), (0, 1))))
        self.assertIs(shows_payments(spare, (0,), (1,), (1000, 1000)), True)
        self.assertIs(shows_payments(spare, (0,), (1,), (1001, 1001)), False)
        self.assertIs(shows_payments(spare, (0,), (1,), (True, 1)), False)


class TestWrongInputs(unittest.TestCase):
    def test_bad_prices(self):
        for prices in BAD_PRICES:
            for call, more in (
                    (payment_bound, ((1, 1, 1),)), (payment_bound, (None,)), (payments_for, ()),
                    (shows_payments, (HALVES, None)), (shows_payments, (None, None))):
                with self.subTest(call=call, prices=prices):
                    with self.assertRaises(BadPrices):
                        call(RING, prices, *more)
                    with self.assertRaises(NoRules):
                        call(None, prices, *more)

    def test_bad_payments(self):
        for payments in BAD_PAYMENTS:
            with self.subTest(payments=payments), self.assertRaises(BadPayments):
                payment_bound(RING, PRICES, payments)
        with self.assertRaises(BadPayments):
            payment_bound(Rules(1, ()), (0,), (0,))

    def test_bad_halves(self):
        for halves in BAD_HALVES:
            for value in ((1, 1, 1), None):
                with self.subTest(halves=halves), self.assertRaises(BadHalves):
                    shows_payments(RING, PRICES, halves, value)
        for halves in product((0, 1, 2), repeat=3):
            if halves not in slow.half_rows(3, RING.rules):
                with self.subTest(halves=halves), self.assertRaises(BadHalves):
                    shows_payments(RING, PRICES, halves, (1, 1, 1))

    def test_just_half_rows_that_keep_the_rules(self):
        for rules in RULES[::2] + [Rules(1, ()), Rules(3, ())]:
            right = slow.half_rows(rules.many, rules.rules)
            prices = (0,) * rules.many
            for halves in product((-1, 0, 1, 2, 3), repeat=rules.many if rules.many < 4 else 2):
                halves += (1,) * (rules.many - len(halves))
                if halves in right:
                    self.assertIs(shows_payments(rules, prices, halves, None), False)
                else:
                    with self.assertRaises(BadHalves):
                        shows_payments(rules, prices, halves, None)

    def test_no_rules_value(self):
        for value in OTHER_KINDS:
            for call, more in ((payment_bound, ((),)), (payments_for, ()), (shows_payments, (HALVES, ()))):
                with self.subTest(call=call, value=value), self.assertRaises(NoRules):
                    call(value, PRICES, *more)

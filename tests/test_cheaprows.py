"""Point 38: the cheapest rows."""

import unittest

from middlerows.cheaprows import all_cheapest, cheapest, dearest_one
from middlerows.errors import BadPlace, BadPrices, NoRules
from middlerows.nearest import nearest
from middlerows.rules import Rules
from tests import slow
from tests.samples import OTHER_KINDS, few_rules, many_rules, nobodys_rules, some_prices, wide_rules

RING = Rules(3, (((0, 1), (1, 1)), ((0, 1), (2, 1)), ((1, 1), (2, 1))))
BAD_PRICES = OTHER_KINDS + (
    (), (0, 1), (0, 1, 2, 3), (0, True, 1), (False, 1, 1), (51, 0, 0), (0, 0, -51), [1, 1, 1], (1, None, 1), "111",
    ("1", 1, 1), (1, (1,), 1), {0: 1, 1: 1, 2: 1}, (1, 1, 10 ** 30), (1, 1, []))


def slowly_dearest(rules, prices, place):
    rows = slow.kept(rules.many, rules.rules)
    for price in range(50, -51, -1):
        tried = prices[:place] + (price,) + prices[place + 1:]
        least = min((slow.price(tried, row) for row in rows), default=None)
        if any(row[place] == 1 and slow.price(tried, row) == least for row in rows):
            return price
    return None


class TestCheapest(unittest.TestCase):
    def test_against_all_rows(self):
        for rules in many_rules()[::3] + wide_rules()[2:5] + nobodys_rules():
            for prices in some_prices(rules.many, 3):
                priced = sorted((slow.price(prices, row), row) for row in slow.kept(rules.many, rules.rules))
                if not priced:
                    self.assertEqual((cheapest(rules, prices), all_cheapest(rules, prices)), (None, None))
                    continue
                self.assertEqual(cheapest(rules, prices), priced[0])
                self.assertEqual(all_cheapest(rules, prices), [row for cost, row in priced if cost == priced[0][0]])

    def test_prices_at_the_ends(self):
        self.assertEqual(cheapest(RING, (50, 50, 50)), (100, (0, 1, 1)))
        self.assertEqual(cheapest(RING, (-50, -50, -50)), (-150, (1, 1, 1)))
        self.assertEqual(cheapest(RING, (0, 0, 0)), (0, (0, 1, 1)))
        self.assertEqual(all_cheapest(RING, (0, 0, 0)), [(0, 1, 1), (1, 0, 1), (1, 1, 0), (1, 1, 1)])
        self.assertEqual(cheapest(Rules(8, ()), (-50, 50) * 4), (-200, (1, 0) * 4))
        self.assertEqual(len(all_cheapest(Rules(8, ()), (0,) * 8)), 256)

    def test_with_the_price_1_everywhere_the_nearest_to_the_row_of_0s(self):
        for rules in few_rules():
            pair = cheapest(rules, (1,) * rules.many)
            self.assertEqual(pair[1] if pair else None, nearest(rules, (0,) * rules.many))

    def test_bad_prices(self):
        for prices in BAD_PRICES:
            for call, more in ((cheapest, ()), (all_cheapest, ()), (dearest_one, (0,)), (dearest_one, (None,))):
                with self.subTest(call=call, prices=prices):
                    with self.assertRaises(BadPrices):
                        call(RING, prices, *more)
                    with self.assertRaises(NoRules):
                        call(None, prices, *more)
        with self.assertRaises(BadPrices):
            cheapest(nobodys_rules()[0], (0, 0))

    def test_no_rules_value(self):
        for value in OTHER_KINDS:
            for call, more in ((cheapest, ()), (all_cheapest, ()), (dearest_one, (0,))):
                with self.subTest(call=call, value=value), self.assertRaises(NoRules):
                    call(value, (0,), *more)

    def test_lists_are_new(self):
        all_cheapest(RING, (1, 1, 1)).clear()
        self.assertEqual(len(all_cheapest(RING, (1, 1, 1))), 3)


class TestDearestOne(unittest.TestCase):
    def test_against_all_prices(self):
        for rules in few_rules() + nobodys_rules()[:4]:
            for prices in some_prices(rules.many, 3, seed=2):
                for place in range(rules.many):
                    self.assertEqual(dearest_one(rules, prices, place), slowly_dearest(rules, prices, place))

    def test_edges(self):
        # No row with 1 there, no row with 0 there, and no row at all.
        self.assertIsNone(dearest_one(Rules(1, (((0, 0), (0, 0)),)), (-50,), 0))
        self.assertEqual(dearest_one(Rules(1, (((0, 1), (0, 1)),)), (-50,), 0), 50)
        self.assertIsNone(dearest_one(nobodys_rules()[0], (0,), 0))
        self.assertEqual(dearest_one(Rules(1, ()), (13,), 0), 0)
        # The price of the place itself means nothing.
        for price in (-50, 0, 50):
            self.assertEqual(dearest_one(RING, (price, 20, 30), 0), 30)
        costly = Rules(3, (((0, 0), (1, 1)), ((0, 0), (2, 1))))
        self.assertEqual(dearest_one(costly, (0, 25, 25), 0), -50)
        self.assertIsNone(dearest_one(costly, (0, 25, 26), 0))
        spare = Rules(3, (((0, 1), (1, 1)), ((0, 1), (2, 1))))
        self.assertEqual(dearest_one(spare, (0, 25, 24), 0), 49)
        self.assertEqual(dearest_one(spare, (0, 25, 25), 0), 50)
        self.assertEqual(dearest_one(spare, (0, 50, 50), 0), 50)

    def test_8_free_places(self):
        for place, prices in enumerate(some_prices(8, 8, seed=3)):
            self.assertEqual(dearest_one(Rules(8, ()), prices, place), 0)

    def test_bad_place(self):
        for place in OTHER_KINDS + (3, "0", (0,), -3):
            with self.subTest(place=place), self.assertRaises(BadPlace):
                dearest_one(RING, (1, 1, 1), place)
        with self.assertRaises(BadPlace):
            dearest_one(nobodys_rules()[0], (0,), 1)

"""The cheapest rows that keep rules, by prices of the places."""

from middlerows.checks import check_place, check_prices
from middlerows.kinds import MOST_PRICE
from middlerows.rules import check_rules, rows_of


def row_price(prices, row):
    """What the 1s of a row cost together."""
    return sum([price for price, value in zip(prices, row) if value == 1])


def cheapest(rules, prices):
    check_rules(rules)
    check_prices(rules.many, prices)
    return min([(row_price(prices, row), row) for row in rows_of(rules)], default=None)


def all_cheapest(rules, prices):
    least = cheapest(rules, prices)
    if least is None:
        return None
    return [row for row in rows_of(rules) if row_price(prices, row) == least[0]]


def dearest_one(rules, prices, place):
    check_rules(rules)
    check_prices(rules.many, prices)
    check_place(rules.many, place)
    others = prices[:place] + (0,) + prices[place + 1:]
    rows = rows_of(rules)
    with_one = min([row_price(others, row) for row in rows if row[place] == 1], default=None)
    without_one = min([row_price(others, row) for row in rows if row[place] == 0], default=None)
    if with_one is None:
        return None
    if without_one is None:
        return MOST_PRICE
    # At this price of the place the cheapest rows with 1 and with 0 there cost the same.
    even = without_one - with_one
    if even < -MOST_PRICE:
        return None
    return min(even, MOST_PRICE)

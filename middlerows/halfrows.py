"""Half rows by prices: which keep rules, what the least ones cost, what is whole in them, and the rows that stay."""

from middlerows.cheaprows import all_cheapest, cheapest
from middlerows.checks import check_prices
from middlerows.errors import BadHalves, NotLeast, TooMany
from middlerows.kinds import all_wants, has_wants, is_integer
from middlerows.rules import check_rules

MOST_HALF_ROWS = 2000


def is_half_row(many, value):
    if not isinstance(value, tuple) or len(value) != many:
        return False
    return all([is_integer(thing) and 0 <= thing <= 2 for thing in value])


def halves_of_want(halves, want):
    place, value = want
    if value == 1:
        return halves[place]
    return 2 - halves[place]


def are_kept_by_halves(some, halves):
    """Whether a half row keeps all of some rules."""
    for first, second in some:
        if halves_of_want(halves, first) + halves_of_want(halves, second) < 2:
            return False
    return True


def price_of_halves(prices, halves):
    return sum([price * many for price, many in zip(prices, halves)])


def keeps_halves(rules, value):
    check_rules(rules)
    return is_half_row(rules.many, value) and are_kept_by_halves(rules.rules, value)


def check_kept_halves(rules, halves):
    if not keeps_halves(rules, halves):
        raise BadHalves("this is no half row that keeps the rules")


def half_cost(rules, prices, halves):
    check_rules(rules)
    check_prices(rules.many, prices)
    if not is_half_row(rules.many, halves):
        raise BadHalves("this is no half row of these places")
    return price_of_halves(prices, halves)


def kept_half_rows(rules):
    """All half rows that keep the rules, ascending."""
    found = [()]
    for place in range(rules.many):
        # No want of a rule has a greater place than its second one, so all halves that it takes are there by then.
        some = [rule for rule in rules.rules if rule[1][0] == place]
        longer = [halves + (many,) for halves in found for many in (0, 1, 2)]
        found = [halves for halves in longer if are_kept_by_halves(some, halves)]
    return found


def least_half_rows(rules, prices):
    """All half rows that keep the rules and cost the least, ascending: there always is one."""
    check_rules(rules)
    check_prices(rules.many, prices)
    costs = [(price_of_halves(prices, halves), halves) for halves in kept_half_rows(rules)]
    least, _ = min(costs)
    return [halves for cost, halves in costs if cost == least]


def least_half_cost(rules, prices):
    return price_of_halves(prices, least_half_rows(rules, prices)[0])


def half_rows(rules, prices):
    found = least_half_rows(rules, prices)
    if len(found) > MOST_HALF_ROWS:
        raise TooMany(MOST_HALF_ROWS)
    return found


def wants_of_halves(halves):
    """The wants of which a half row has both halves, ascending."""
    return [want for want in all_wants(len(halves)) if halves_of_want(halves, want) == 2]


def whole_wants(rules, prices):
    rows = least_half_rows(rules, prices)
    found = wants_of_halves(rows[0])
    for halves in rows:
        found = [want for want in found if halves_of_want(halves, want) == 2]
    return tuple(found)


def staying(rules, prices, halves):
    cost = half_cost(rules, prices, halves)
    check_kept_halves(rules, halves)
    if cost > least_half_cost(rules, prices):
        raise NotLeast("this half row costs more than the least")
    rows = all_cheapest(rules, prices)
    if rows is None:
        return None
    whole = wants_of_halves(halves)
    return [row for row in rows if has_wants(row, whole)]


def all_halves(rules, prices):
    return least_half_cost(rules, prices) == sum(prices)


def gap(rules, prices):
    halves = least_half_cost(rules, prices)
    pair = cheapest(rules, prices)
    if pair is None:
        return None
    return 2 * pair[0] - halves

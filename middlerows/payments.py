"""Payments for rules: a bound below which no half row that keeps the rules can cost.

Each half row that keeps the rules comes of a lot of wants, closed under the steps of the rules: a place has one half
if its want of 1 is in the lot, and one more if its want of 0 is not. So the cheapest one is a least cut between the
wants, and the greatest flow along the steps, from the wants that it pays to have to those that cost, is what the rules
are to be paid.
"""

from middlerows.checks import check_prices
from middlerows.errors import BadPayments
from middlerows.halfrows import check_kept_halves, price_of_halves
from middlerows.kinds import all_wants, is_integer, opposite
from middlerows.rules import check_rules
from middlerows.walks import step_table

MOST_PAYMENT = 1000


def is_payments(rules, value):
    if not isinstance(value, tuple) or len(value) != len(rules.rules):
        return False
    return all([is_integer(thing) and 0 <= thing <= MOST_PAYMENT for thing in value])


def bound_of(rules, prices, payments):
    gets = {want: 0 for want in all_wants(rules.many)}
    for (first, second), payment in zip(rules.rules, payments):
        gets[first] += payment
        gets[second] += payment
    taken = [max(gets[(place, 0)], gets[(place, 1)] - 2 * price) for place, price in enumerate(prices)]
    return sum(payments) - sum(taken)


def payment_bound(rules, prices, payments):
    check_rules(rules)
    check_prices(rules.many, prices)
    if not is_payments(rules, payments):
        raise BadPayments("this is no tuple of an integer from 0 to 1000 for each rule")
    return bound_of(rules, prices, payments)


def shows_payments(rules, prices, halves, value):
    check_rules(rules)
    check_prices(rules.many, prices)
    check_kept_halves(rules, halves)
    return is_payments(rules, value) and bound_of(rules, prices, value) == price_of_halves(prices, halves)


def payments_for(rules, prices):
    check_rules(rules)
    check_prices(rules.many, prices)
    flows = greatest_flow(step_table(rules), prices)
    return tuple([sum([flows[step] for step in steps_of(rule)]) for rule in rules.rules])


def steps_of(rule):
    """The steps by which a rule leads, as pairs of wants."""
    first, second = rule
    if first == second:
        return [(opposite(first), first)]
    return [(opposite(first), second), (opposite(second), first)]


def greatest_flow(steps, prices):
    """For each step, as a pair of wants, what flows along it."""
    flows = {(want, other): 0 for want in steps for other in steps[want]}
    # What a want can still send if above 0, what it can still take if below 0.
    left = {}
    for place, price in enumerate(prices):
        left[(place, 0)] = price
        left[(place, 1)] = -price
    path = open_path(flows, left)
    while path is not None:
        send_along(flows, left, path)
        path = open_path(flows, left)
    return flows


def open_path(flows, left):
    """A shortest path from a want that can send to one that can take, None if there is none."""
    lap = [want for want in left if left[want] > 0]
    paths = {want: [want] for want in lap}
    while lap:
        later = []
        for want in lap:
            if left[want] < 0:
                return paths[want]
            for other in left:
                if other not in paths and is_open(flows, want, other):
                    paths[other] = paths[want] + [other]
                    later.append(other)
        lap = later
    return None


def is_open(flows, one, other):
    """Whether more can flow from a want to another one: along a step, or less backwards along one."""
    return (one, other) in flows or flows.get((other, one), 0) > 0


def send_along(flows, left, path):
    """Sends as much along a path as can be."""
    pairs = list(zip(path[:-1], path[1:]))
    backwards = [flows[(other, one)] for one, other in pairs if (one, other) not in flows]
    most = min([left[path[0]], -left[path[-1]]] + backwards)
    left[path[0]] -= most
    left[path[-1]] += most
    for one, other in pairs:
        if (one, other) in flows:
            flows[(one, other)] += most
        else:
            flows[(other, one)] -= most

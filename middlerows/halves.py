"""Half rows: tuples of 0, 1 or 2 halves for each place, which of them keep rules, and what they cost."""

from middlerows.kinds import is_integer


def is_half_row(many, value):
    if not isinstance(value, tuple) or len(value) != many:
        return False
    return all([is_integer(thing) and 0 <= thing <= 2 for thing in value])


def halves_of_want(halves, want):
    place, value = want
    if value == 1:
        return halves[place]
    return 2 - halves[place]


def is_kept_by_halves(rules, halves):
    """Whether a half row keeps all rules."""
    for first, second in rules.rules:
        if halves_of_want(halves, first) + halves_of_want(halves, second) < 2:
            return False
    return True


def price_of_halves(prices, halves):
    return sum([price * many for price, many in zip(prices, halves)])

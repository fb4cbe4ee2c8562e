"""What is an integer, a place, a want, a rule or a row, told of any value."""

MOST_PLACES = 8
MOST_PRICE = 50
# All pairs of values that two places can have, ascending.
ALL_PAIRS = ((0, 0), (0, 1), (1, 0), (1, 1))


def is_integer(value):
    # To Python True and False are integers, here they are none.
    return isinstance(value, int) and not isinstance(value, bool)


def is_bit(value):
    return is_integer(value) and 0 <= value <= 1


def is_many(value):
    return is_integer(value) and 1 <= value <= MOST_PLACES


def is_place(many, value):
    return is_integer(value) and 0 <= value < many


def is_pair(value):
    return isinstance(value, tuple) and len(value) == 2


def is_want(many, value):
    return is_pair(value) and is_place(many, value[0]) and is_bit(value[1])


def is_rule(many, value):
    if not is_pair(value):
        return False
    first, second = value
    if not is_want(many, first) or not is_want(many, second):
        return False
    return first <= second and first != opposite(second)


def is_row(many, value):
    if not isinstance(value, tuple) or len(value) != many:
        return False
    return all([is_bit(thing) for thing in value])


def is_row_with_gaps(many, value):
    """Whether a value is a tuple of 0, 1 or None for each place."""
    if not isinstance(value, tuple) or len(value) != many:
        return False
    return all([thing is None or is_bit(thing) for thing in value])


def is_prices(many, value):
    """Whether a value is a tuple of an integer from -50 to 50 for each place."""
    if not isinstance(value, tuple) or len(value) != many:
        return False
    return all([is_integer(thing) and -MOST_PRICE <= thing <= MOST_PRICE for thing in value])


def is_row_of_some_length(value):
    return isinstance(value, tuple) and is_many(len(value)) and is_row(len(value), value)


def is_wants(many, value):
    """Whether a value is an ascending tuple of wants of unlike places."""
    if not isinstance(value, tuple):
        return False
    for want in value:
        if not is_want(many, want):
            return False
    # Two wants of one place would stand side by side.
    return is_rising([place for place, _ in value])


def is_places(many, value):
    """Whether a value is an ascending tuple of unlike places."""
    if not isinstance(value, tuple):
        return False
    for place in value:
        if not is_place(many, place):
            return False
    return is_rising(value)


def is_order(many, value):
    """Whether a value is a tuple of all places, each once."""
    if not isinstance(value, tuple) or len(value) != many:
        return False
    for place in value:
        if not is_place(many, place):
            return False
    return sorted(value) == list(range(many))


def is_pair_of_values(value):
    return is_pair(value) and is_bit(value[0]) and is_bit(value[1])


def is_picture(many, value):
    """Whether a value is a picture: two places, one less than other, and the pairs that are let there, ascending."""
    if not isinstance(value, tuple) or len(value) != 3:
        return False
    one, other, pairs = value
    if not is_place(many, one) or not is_place(many, other) or one >= other:
        return False
    if not isinstance(pairs, tuple):
        return False
    return all([is_pair_of_values(pair) for pair in pairs]) and is_rising(pairs)


def is_rising(things):
    for index in range(1, len(things)):
        if things[index] <= things[index - 1]:
            return False
    return True


def first_wrong_rule(many, rules):
    """The index of the first thing that cannot stand among ascending unlike rules, or None."""
    for index, rule in enumerate(rules):
        if not is_rule(many, rule):
            return index
        if index > 0 and rule <= rules[index - 1]:
            return index
    return None


def first_wrong_row(lot):
    """The index of the first thing that cannot stand in a lot of rows, or None."""
    for index, row in enumerate(lot):
        if not is_row_of_some_length(row):
            return index
        if index > 0 and (len(row) != len(lot[0]) or row <= lot[index - 1]):
            return index
    return None


def first_wrong_picture(many, tables):
    """The index of the first thing that cannot stand among pictures, ascending by their places, or None."""
    for index, picture in enumerate(tables):
        if not is_picture(many, picture):
            return index
        if index > 0 and picture[:2] <= tables[index - 1][:2]:
            return index
    return None


def opposite(want):
    place, value = want
    return (place, 1 - value)


def all_wants(many):
    """All wants of some places, ascending."""
    return [(place, value) for place in range(many) for value in (0, 1)]


def all_rules(many):
    """All rules of some places, ascending."""
    wants = all_wants(many)
    pairs = [(first, second) for first in wants for second in wants]
    return [rule for rule in pairs if is_rule(many, rule)]


def rule_of(one, other):
    """The rule of two wants, in whichever order they come."""
    if one <= other:
        return (one, other)
    return (other, one)


def keeps_rule(row, rule):
    (one, first), (other, second) = rule
    return row[one] == first or row[other] == second


def wants_in_gaps(gaps):
    """The wants of the values that are not None."""
    return tuple([(place, value) for place, value in enumerate(gaps) if value is not None])


def has_wants(row, wants):
    return all([row[place] == value for place, value in wants])


def unlike_places(one, other):
    """In how many places two rows are unlike."""
    return len([True for first, second in zip(one, other) if first != second])


def pairs_at(rows, one, other):
    """The pairs of the values that rows have at two places, ascending."""
    return tuple(sorted({(row[one], row[other]) for row in rows}))

"""Tables closed by threes: pairs that lack at a third place are taken away, lap by lap."""

from middlerows.checks import check_tables
from middlerows.kinds import is_pair_of_values, is_place
from middlerows.pairs import filled


def let_table(tables):
    """All pairs of wants that tables let, both ways round."""
    let = {}
    for one, other, pairs in tables:
        for first, second in pairs:
            let[((one, first), (other, second))] = True
            let[((other, second), (one, first))] = True
    return let


def goes_with_both(let, want, one, other):
    return (one, want) in let and (other, want) in let


def lacks_of(many, tables):
    """All tuples (one, other, pair, third), ascending: a pair that full tables let lacks at a third place."""
    let = let_table(tables)
    found = []
    for one, other, pairs in tables:
        thirds = [place for place in range(many) if place != one and place != other]
        for first, second in pairs:
            for third in thirds:
                wants = [(third, 0), (third, 1)]
                if not any([goes_with_both(let, want, (one, first), (other, second)) for want in wants]):
                    found.append((one, other, (first, second), third))
    return found


def next_lap(many, tables):
    """The pairs that lack at some third place, as an ascending tuple of (one, other, pair)."""
    return tuple(sorted({(one, other, pair) for one, other, pair, _ in lacks_of(many, tables)}))


def without_pairs(tables, lap):
    left = []
    for one, other, pairs in tables:
        left.append((one, other, tuple([pair for pair in pairs if (one, other, pair) not in lap])))
    return tuple(left)


def table_laps(many, tables):
    left = filled(many, tables)
    laps = []
    lap = next_lap(many, left)
    while lap:
        laps.append(lap)
        left = without_pairs(left, lap)
        lap = next_lap(many, left)
    return laps


def closed_tables(many, tables):
    left = filled(many, tables)
    for lap in table_laps(many, tables):
        left = without_pairs(left, lap)
    return left


def first_lack(many, tables):
    found = lacks_of(many, filled(many, tables))
    if not found:
        return None
    return found[0]


def shows_lack(many, tables, value):
    check_tables(many, tables)
    if not isinstance(value, tuple) or len(value) != 4:
        return False
    one, other, pair, third = value
    if not all([is_place(many, place) for place in (one, other, third)]) or not is_pair_of_values(pair):
        return False
    return value in lacks_of(many, filled(many, tables))

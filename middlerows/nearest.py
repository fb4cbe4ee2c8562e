"""The nearest rows that keep rules, rows most apart, and wants that are told in turn."""

from itertools import combinations

from middlerows.checks import check_row
from middlerows.errors import BadTold
from middlerows.kinds import is_want, unlike_places
from middlerows.rowmasks import is_one_row, want_masks
from middlerows.rules import check_rules, mask_of, rows_of

MOST_TOLD = 20


def nearest_of(rows, row):
    """The pair of the fewest places in which a row is unlike one of some rows, and of the least such row, or None."""
    return min([(unlike_places(row, other), other) for other in rows], default=None)


def nearest_pair(rules, row):
    check_rules(rules)
    check_row(rules.many, row)
    return nearest_of(rows_of(rules), row)


def flips_to(rules, row):
    pair = nearest_pair(rules, row)
    if pair is None:
        return None
    return pair[0]


def nearest(rules, row):
    pair = nearest_pair(rules, row)
    if pair is None:
        return None
    return pair[1]


def most_apart(rules):
    rows = rows_of(rules)
    most = 0
    found = None
    for one, other in combinations(rows, 2):
        apart = unlike_places(one, other)
        if apart > most:
            most = apart
            found = (one, other)
    return found


def lots_in_turn(rules, wants):
    """The lots of rows that are left by none of some wants, by the first one, by the first two, and so on."""
    check_rules(rules)
    if not isinstance(wants, tuple) or len(wants) > MOST_TOLD:
        raise BadTold(None)
    for index, want in enumerate(wants):
        if not is_want(rules.many, want):
            raise BadTold(index)
    masks = want_masks(rules.many)
    lots = [mask_of(rules)]
    for want in wants:
        lots.append(lots[-1] & masks[want])
    return lots


def first_settling(rules, told):
    for many, lot in enumerate(lots_in_turn(rules, told)):
        if is_one_row(lot):
            return many
    return None


def first_against(rules, told):
    for index, lot in enumerate(lots_in_turn(rules, told)[1:]):
        if lot == 0:
            return index
    return None


def needless(rules, told):
    lots = lots_in_turn(rules, told)
    # Where no row was left, nothing was settled.
    return tuple([index for index in range(len(told)) if lots[index] != 0 and lots[index] == lots[index + 1]])

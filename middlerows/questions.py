"""Plans of questions: which places to ask, one behind the other, until just one row is left."""

from middlerows.errors import BadMost, TooMany
from middlerows.kinds import MOST_PLACES, is_integer, is_pair, is_place, is_row
from middlerows.rowmasks import least_row_in, row_number, want_masks
from middlerows.rules import check_rules, mask_of

MOST_LOTS_LEFT = 2000


def splits_of(many, masks, lot):
    """For each place that is open in a lot, ascending: the place, the rows with 0 there, and those with 1."""
    splits = []
    for place in range(many):
        zeros, ones = lot & masks[(place, 0)], lot & masks[(place, 1)]
        if zeros != 0 and ones != 0:
            splits.append((place, zeros, ones))
    return splits


def split_table(rules):
    """The splits of each lot that is left by wants that are told, if not empty.

    A want of a place that is not open leaves all rows or none, so asking open places leads to all these lots.
    """
    masks = want_masks(rules.many)
    table = {}
    waiting = [mask_of(rules)]
    while waiting:
        lot = waiting.pop()
        if lot not in table:
            splits = splits_of(rules.many, masks, lot)
            table[lot] = splits
            waiting.extend([zeros for _, zeros, _ in splits] + [ones for _, _, ones in splits])
        if len(table) > MOST_LOTS_LEFT:
            raise TooMany(MOST_LOTS_LEFT)
    return table


def least_depth(table, depths, lot):
    """The least depth of a plan for a lot; depths holds those that are known already."""
    if lot not in depths:
        found = [
            1 + max(least_depth(table, depths, zeros), least_depth(table, depths, ones))
            for _, zeros, ones in table[lot]]
        depths[lot] = min(found, default=0)
    return depths[lot]


def best_split(table, depths, lot):
    """The first split with which a plan of the least depth begins, None for a lot of one row."""
    most = least_depth(table, depths, lot)
    for place, zeros, ones in table[lot]:
        if max(least_depth(table, depths, zeros), least_depth(table, depths, ones)) < most:
            return (place, zeros, ones)
    return None


def plan_for(many, table, depths, lot):
    split = best_split(table, depths, lot)
    if split is None:
        return ("row", least_row_in(many, lot))
    place, zeros, ones = split
    return (place, plan_for(many, table, depths, zeros), plan_for(many, table, depths, ones))


def fewest_questions(rules):
    check_rules(rules)
    lot = mask_of(rules)
    if lot == 0:
        return None
    return least_depth(split_table(rules), {}, lot)


def question_plan(rules):
    check_rules(rules)
    lot = mask_of(rules)
    if lot == 0:
        return None
    return plan_for(rules.many, split_table(rules), {}, lot)


def first_question(rules):
    plan = question_plan(rules)
    if plan is None or plan[0] == "row":
        return None
    return plan[0]


def shows_question_plan(rules, most, value):
    check_rules(rules)
    if not is_integer(most) or not 0 <= most <= MOST_PLACES:
        raise BadMost("the depth must be an integer from 0 to 8")
    return is_plan(rules.many, want_masks(rules.many), mask_of(rules), most, value)


def is_plan(many, masks, lot, most, value):
    """Whether a value is a plan for the rows of a lot, of at most a depth."""
    if is_pair(value):
        return value[0] == "row" and is_row(many, value[1]) and lot == 1 << row_number(value[1])
    if not isinstance(value, tuple) or len(value) != 3 or most == 0:
        return False
    place, plan, other = value
    if not is_place(many, place):
        return False
    zeros, ones = lot & masks[(place, 0)], lot & masks[(place, 1)]
    # No value is a plan for an empty lot, so both are plans only if the place is open.
    return is_plan(many, masks, zeros, most - 1, plan) and is_plan(many, masks, ones, most - 1, other)

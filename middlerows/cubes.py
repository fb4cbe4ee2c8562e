"""Gates to the rows that have some wants, places that cross, and cubes of flips."""

from middlerows.checks import check_wants
from middlerows.nearest import nearest_of
from middlerows.rowmasks import count_of, flipped, want_masks
from middlerows.rules import check_kept, check_rules, mask_of
from middlerows.tellings import left_by


def gate(rules, wants, row):
    check_rules(rules)
    check_wants(rules.many, wants)
    check_kept(rules, row)
    pair = nearest_of(left_by(rules, wants), row)
    if pair is None:
        return None
    return pair[1]


def crossing(rules):
    check_rules(rules)
    kept, masks = mask_of(rules), want_masks(rules.many)
    pairs = [(one, other) for one in range(rules.many) for other in range(one + 1, rules.many)]
    return [pair for pair in pairs if do_cross(kept, masks, pair)]


def do_cross(kept, masks, pair):
    """Whether all four pairs of values come at two places in the rows of a lot."""
    one, other = pair
    return all([kept & masks[(one, first)] & masks[(other, second)] != 0 for first in (0, 1) for second in (0, 1)])


def cubes(rules):
    check_rules(rules)
    masks = want_masks(rules.many)
    counts = [0] * (rules.many + 1)
    # For all places so far, each lot of them: how many, and the rows of 0s there with which a cube of them begins.
    found = [(0, mask_of(rules))]
    for place in range(rules.many):
        larger = [(size + 1, lot & flipped(rules.many, lot, place) & masks[(place, 0)]) for size, lot in found]
        found = found + larger
    for size, lot in found:
        counts[size] += count_of(lot)
    return tuple([count for count in counts if count > 0])

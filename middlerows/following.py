"""All rules that follow from rules, rules with the same rows, and papers that show that they are the same."""

from middlerows.kinds import all_rules, is_row
from middlerows.rowmasks import every_row, least_row_in, rule_mask, want_masks
from middlerows.rules import Rules, check_rules, keeps, mask_of
from middlerows.settled import check_alike, sure
from middlerows.verdicts import follow_paper, is_paper, shows_that_follows


def all_following(rules):
    check_rules(rules)
    kept = mask_of(rules)
    masks = want_masks(rules.many)
    return tuple([rule for rule in all_rules(rules.many) if kept & ~rule_mask(masks, rule) == 0])


def may_go(rules):
    check_rules(rules)
    return those_that_may_go(rules.many, rules.rules)


def those_that_may_go(many, some):
    """Those of some rules, in order, that follow from all others of them."""
    masks = want_masks(many)
    kept = [rule_mask(masks, rule) for rule in some]
    # The rows that keep all rules ahead of a rule, and those that keep all behind it.
    ahead, behind = [every_row(many)], [every_row(many)]
    for mask in kept:
        ahead.append(ahead[-1] & mask)
    for mask in kept[::-1]:
        behind.append(behind[-1] & mask)
    found = []
    for index, rule in enumerate(some):
        others = ahead[index] & behind[len(kept) - 1 - index]
        if others & ~kept[index] == 0:
            found.append(rule)
    return found


def same_rows(one, other):
    check_alike(one, other)
    return mask_of(one) == mask_of(other)


def parting_row(one, other):
    check_alike(one, other)
    return least_row_in(one.many, mask_of(one) ^ mask_of(other))


def plain(rules):
    settled = sure(rules)
    if settled is None:
        return Rules(rules.many, (((0, 0), (0, 0)), ((0, 1), (0, 1))))
    places = [place for place, _ in settled]
    free = [rule for rule in all_following(rules) if rule[0][0] not in places and rule[1][0] not in places]
    return Rules(rules.many, tuple(sorted(free + [(want, want) for want in settled])))


def same_paper(one, other):
    row = parting_row(one, other)
    if row is not None:
        return ("row", row)
    for_other = tuple([follow_paper(one, rule) for rule in other.rules])
    for_one = tuple([follow_paper(other, rule) for rule in one.rules])
    return ("papers", for_other, for_one)


def shows_same(one, other, value):
    check_alike(one, other)
    if is_paper(value, "row", 2):
        return is_row(one.many, value[1]) and keeps(one, value[1]) != keeps(other, value[1])
    if is_paper(value, "papers", 3):
        return show_that_all_follow(one, other.rules, value[1]) and show_that_all_follow(other, one.rules, value[2])
    return False


def show_that_all_follow(rules, some, value):
    """Whether a value is a tuple of papers that show, in order, that each of some rules follows from rules."""
    if not isinstance(value, tuple) or len(value) != len(some):
        return False
    for rule, paper in zip(some, value):
        if not shows_that_follows(rules, rule, paper):
            return False
    return True

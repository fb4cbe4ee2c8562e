"""What all rows that keep rules have, and rules made of other ones: told, renamed, turned, both, parts."""

from middlerows.checks import check_order, check_places, check_some_places, check_wants
from middlerows.errors import Unlike
from middlerows.kinds import all_wants, opposite, rule_of
from middlerows.rowmasks import want_masks
from middlerows.rules import check_rules, mask_of, rules_from


def sure(rules):
    check_rules(rules)
    kept = mask_of(rules)
    if kept == 0:
        return None
    masks = want_masks(rules.many)
    return tuple([want for want in all_wants(rules.many) if kept & masks[opposite(want)] == 0])


def tied(rules):
    check_rules(rules)
    kept = mask_of(rules)
    if kept == 0:
        return None
    masks = want_masks(rules.many)
    both_ways = [place for place in range(rules.many) if kept & masks[(place, 0)] and kept & masks[(place, 1)]]
    found = []
    for one in both_ways:
        for other in both_ways:
            unlike = kept & (masks[(one, 1)] ^ masks[(other, 1)])
            if one < other and unlike == 0:
                found.append((one, other, 0))
            if one < other and unlike == kept:
                found.append((one, other, 1))
    return found


def told(rules, wants):
    check_rules(rules)
    check_wants(rules.many, wants)
    return rules_from(rules.many, list(rules.rules) + [(want, want) for want in wants])


def renamed(rules, order):
    check_rules(rules)
    check_order(rules.many, order)
    return rules_from(rules.many, renamed_list(rules.rules, where_they_stand(order)))


def where_they_stand(places):
    """For each of some places its own place among them, from 0: the name that it gets."""
    return {place: index for index, place in enumerate(places)}


def renamed_list(some, names):
    """Some rules with names[place] for each place."""
    return [rule_of((names[one], first), (names[other], second)) for (one, first), (other, second) in some]


def turned(rules, places):
    check_rules(rules)
    check_places(rules.many, places)
    wants = {want: want for want in all_wants(rules.many)}
    for place in places:
        wants[(place, 0)] = (place, 1)
        wants[(place, 1)] = (place, 0)
    return rules_from(rules.many, [rule_of(wants[first], wants[second]) for first, second in rules.rules])


def check_alike(one, other):
    """Checks of two Rules that must have equal numbers of places."""
    check_rules(one)
    check_rules(other)
    if one.many != other.many:
        raise Unlike("the rules have unlike numbers of places")


def both(one, other):
    check_alike(one, other)
    return rules_from(one.many, list(one.rules) + list(other.rules))


def parts(rules):
    check_rules(rules)
    lots = [(place,) for place in range(rules.many)]
    for first, second in rules.rules:
        touched = [lot for lot in lots if first[0] in lot or second[0] in lot]
        joined = [place for lot in touched for place in lot]
        lots = [lot for lot in lots if lot not in touched] + [tuple(sorted(joined))]
    return sorted(lots)


def part_of(rules, places):
    check_rules(rules)
    check_some_places(rules.many, places)
    names = where_they_stand(places)
    inside = [rule for rule in rules.rules if rule[0][0] in names and rule[1][0] in names]
    return rules_from(len(places), renamed_list(inside, names))

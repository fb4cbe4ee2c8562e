"""The fewest rules that just the same rows keep, and what each of them is for.

Each sure want takes one rule. The other wants lie in rings, by the rules that follow: a ring of so many wants, and
that of their opposites, take as many rules together, which lead around both. Then one ring leads to another one,
with no ring between, by one rule, which leads from the opposites of the other one to those of the first one, too.
"""

from middlerows.following import all_following, plain, same_rows
from middlerows.kinds import opposite, rule_of
from middlerows.rules import Rules, check_rules, rules_from
from middlerows.settled import sure
from middlerows.walks import step_table, want_rings


def count_fewest(rules):
    numbers = fewest_parts(rules)
    if numbers is None:
        return 2
    return sum(numbers)


def fewest_parts(rules):
    settled = sure(rules)
    if settled is None:
        return None
    rings, steps = free_rings(rules, settled)
    in_rings = sum([len(ring) for ring in rings if len(ring) > 1])
    return (len(settled), in_rings // 2, len(near_rings(rings, steps)) // 2)


def free_rings(rules, settled):
    """The rings of what follows of wants of no place with a sure want, and where each want leads by one step."""
    following = Rules(rules.many, all_following(rules))
    places = [place for place, _ in settled]
    # Free wants lead to sure ones, but none of these leads back: a ring is free as a whole, or not at all.
    rings = [ring for ring in want_rings(following) if ring[0][0] not in places]
    return rings, step_table(following)


def near_rings(rings, steps):
    """The pairs of rings of which the first leads to the second, and to no other ring that leads to it.

    What follows leads by one step wherever walks lead, so the first want of a ring tells of all.
    """
    behind = {}
    for ring in rings:
        behind[ring] = [other for other in rings if other != ring and other[0] in steps[ring[0]]]
    found = []
    for ring in rings:
        for other in behind[ring]:
            between = [third for third in behind[ring] if other in behind[third]]
            if not between:
                found.append((ring, other))
    return found


def fewest_rules(rules):
    settled = sure(rules)
    if settled is None:
        # Two rules, and no single one, are kept by no row: those of the plain rules are such.
        return plain(rules)
    rings, steps = free_rings(rules, settled)
    found = [(want, want) for want in settled]
    for ring in rings:
        # The ring of the opposites is led around by the same rules.
        if len(ring) > 1 and ring[0][1] == 0:
            found.extend(around(ring))
    for one, other in near_rings(rings, steps):
        found.append(leading(one[0], other[0]))
    return rules_from(rules.many, found)


def leading(one, other):
    """The rule that leads from one want to another one."""
    return rule_of(opposite(one), other)


def around(ring):
    """The rules that lead from each want of a ring to the next one, and from the last one to the first one."""
    nexts = ring[1:] + ring[:1]
    return [leading(want, after) for want, after in zip(ring, nexts)]


def shows_fewest(rules, value):
    check_rules(rules)
    if not isinstance(value, Rules) or value.many != rules.many:
        return False
    return same_rows(rules, value) and len(value.rules) == count_fewest(rules)

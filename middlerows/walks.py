"""Steps from want to want by rules, walks, and rings of wants."""

from middlerows.checks import check_want
from middlerows.kinds import all_wants, is_want, opposite
from middlerows.rules import check_rules


def step_table(rules):
    """For each want the ascending list of the wants to which it leads by one step."""
    steps = {want: {} for want in all_wants(rules.many)}
    for first, second in rules.rules:
        steps[opposite(first)][second] = True
        steps[opposite(second)][first] = True
    return {want: sorted(list(steps[want])) for want in steps}


def came_from_table(steps, one):
    """For each want to which one leads the want ahead of it on the least of the shortest walks, for one None.

    The wants of each lap are taken in the order of their least walks, so the first want
    that leads to a new one is the one on the least walk to it.
    """
    came_from = {one: None}
    lap = [one]
    while lap:
        later = []
        for want in lap:
            for step in steps[want]:
                if step not in came_from:
                    came_from[step] = want
                    later.append(step)
        lap = later
    return came_from


def least_walk(steps, one, other):
    came_from = came_from_table(steps, one)
    if other not in came_from:
        return None
    backwards = []
    want = other
    while want is not None:
        backwards.append(want)
        want = came_from[want]
    return tuple(backwards[::-1])


def is_walk(rules, value):
    """Whether a value is a walk, from whichever want to whichever other one."""
    if not isinstance(value, tuple) or len(value) == 0:
        return False
    for want in value:
        if not is_want(rules.many, want):
            return False
    steps = step_table(rules)
    for index in range(1, len(value)):
        if value[index] not in steps[value[index - 1]]:
            return False
    return True


def steps_from(rules, want):
    check_rules(rules)
    check_want(rules.many, want)
    return tuple(step_table(rules)[want])


def leads(rules, want):
    check_rules(rules)
    check_want(rules.many, want)
    return tuple(sorted(list(came_from_table(step_table(rules), want))))


def walk(rules, one, other):
    check_rules(rules)
    check_want(rules.many, one)
    check_want(rules.many, other)
    return least_walk(step_table(rules), one, other)


def shows_walk(rules, one, other, value):
    check_rules(rules)
    check_want(rules.many, one)
    check_want(rules.many, other)
    return is_walk(rules, value) and value[0] == one and value[-1] == other


def want_rings(rules):
    check_rules(rules)
    steps = step_table(rules)
    led = {want: came_from_table(steps, want) for want in steps}
    rings = {}
    for want in steps:
        ring = [other for other in led[want] if want in led[other]]
        rings[tuple(sorted(ring))] = True
    return sorted(list(rings))

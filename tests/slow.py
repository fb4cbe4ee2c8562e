"""Slow answers for the tests: all rows, all rules and all wants one by one, as the points define them.

Nothing here imports the package, so a fault of the package is not shared by what it is tested against.
"""

from itertools import combinations, combinations_with_replacement, product


def rows(many):
    return sorted(product((0, 1), repeat=many))


def wants(many):
    return sorted(product(range(many), (0, 1)))


def opposite(want):
    return (want[0], 1 - want[1])


def rules_of_places(many):
    pairs = combinations_with_replacement(wants(many), 2)
    return [pair for pair in pairs if pair[0] != opposite(pair[1])]


def has(row, want):
    return row[want[0]] == want[1]


def keeps_rule(row, rule):
    return has(row, rule[0]) or has(row, rule[1])


def kept(many, rules):
    return [row for row in rows(many) if all(keeps_rule(row, rule) for rule in rules)]


def follows(many, rules, rule):
    return all(keeps_rule(row, rule) for row in kept(many, rules))


def steps(rules):
    """All pairs (one, other) such that some rule leads from one to other by one step."""
    return {(opposite(rule[at]), rule[1 - at]) for rule in rules for at in (0, 1)}


def walks_of_length(many, rules, length):
    """All walks of so many wants, by lengthening all shorter ones."""
    walks = [(want,) for want in wants(many)]
    pairs = steps(rules)
    for _ in range(length - 1):
        walks = [walk + (want,) for walk in walks for want in wants(many) if (walk[-1], want) in pairs]
    return walks


def reaches(many, rules):
    """All pairs (one, other) such that a walk leads from one to other."""
    pairs = {(want, want) for want in wants(many)} | steps(rules)
    while True:
        longer = {(a, d) for a, b in pairs for c, d in pairs if b == c}
        if longer <= pairs:
            return pairs
        pairs |= longer


def rings(many, rules):
    """The smallest lots of wants, among all lots, that are whole: all rings are wants that lead to one another."""
    pairs = reaches(many, rules)
    found = set()
    for want in wants(many):
        found.add(tuple(w for w in wants(many) if (want, w) in pairs and (w, want) in pairs))
    return sorted(found)


def is_walk(many, rules, value, one, other):
    if value[0] != one or value[-1] != other:
        return False
    return all(pair in steps(rules) for pair in zip(value, value[1:]))


def subsets(things):
    for size in range(len(things) + 1):
        yield from combinations(things, size)


def middle(one, other, third):
    return tuple(1 if a + b + c >= 2 else 0 for a, b, c in zip(one, other, third))


def laps(lot):
    """The laps of a lot: middles of all threes of the laps ahead, perhaps alike rows."""
    found = [tuple(lot)]
    while True:
        ahead = [row for lap in found for row in lap]
        middles = {middle(*three) for three in product(ahead, repeat=3)}
        lap = tuple(sorted(middles - set(ahead)))
        if not lap:
            return found
        found.append(lap)


def closed(lot):
    return tuple(sorted(row for lap in laps(lot) for row in lap))
